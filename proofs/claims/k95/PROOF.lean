import PyProof.Rows.All
import Wide.All
import OpenK.AllK
import Wide.FinOn
import HandS.ForMost
import HandS.IsInst
import HandS.WideBits
import PyProof.ReprRoads
import HandS.Walk
import HandS.TupAny
import HandS.TupMul
import HandS.Strs
import HandS.Zip
import HandS.Codes
import HandS.Lambda
import HandS.Iter
import KE.DataMinKey
import HandS.EndTab
import HandS.More
import HandS.DictComp
import PyProof.InstNe
import HandS.CallLocal
import HandS.Defaults
import HandS.OwnEq
import HandS.Style
import KE.KNestM
import HandS.Head2
import PySem.Challenge.RW_ringclear_k95_copies
set_option Elab.async false
set_option linter.all false
set_option maxRecDepth 100000
namespace Rc
open PySem PySem.Spec PyProof.Rows L2

/-- a promise that is kept where no repr is under way -/
structure FnG (P : Program) (w : World) (K : PySem.W.Frag) (mg : Str → Option Value)
    (base : Heap) (CX : CXT) (k : Nat) (f : Addr) (fd : FuncData) (ps : List Str) (sp : Sp) : Prop where
  len : ∀ vs H Q E, sp vs H Q E → vs.length = ps.length
  go : ∀ (A : Around) (outer : List Env) (s : Shared) (H : Hp) (args : Args) (us : List Value)
    (vs : List V) (Q : VK) (E : XK), Room k A → A.guards = some [] →
    Env0 P w K mg base A outer s H → BindsTo s fd args (ps.zip us) → Vals vs us → sp vs H Q E →
    codeAny (model P w) A (.call (.ref f) args) (CR CX outer P w H s Q E) s

section
variable {P : Program} {w : World} {K : PySem.W.Frag} {mg : Str → Option Value} {base : Heap}

theorem FnG.of {CX : CXT} {k : Nat} {f : Addr} {fd : FuncData} {ps : List Str} {sp : Sp}
    (F : FnOk P w K mg base CX k f fd ps sp) : FnG P w K mg base CX k f fd ps sp :=
  ⟨F.len, fun A outer s H args us vs Q E hr _ e0 hb r h =>
    F.run A outer s H args us vs Q E hr e0 hb r h⟩

/-- a def by its body, no repr being under way -/
theorem okG {CX : CXT} {x qual : Str} {st : Stmt} {f : Addr} {fd : FuncData} {N ps : List Str} {k : Nat} {sp : Sp}
    (F : Fun K x qual st f fd) (S : FnScope N ps (defScope st))
    (len : ∀ vs H Q E, sp vs H Q E → vs.length = ps.length)
    (body : ∀ (cdv : Value) (A : Around) (outer : List Env) (s : Shared) (H : Hp) (vs : List V) (Q : VK) (E : XK),
      Room k (A.deeper (envOfC qual (defScope st) s.heap.objs.size f cdv)) → A.guards = some [] → sp vs H Q E →
      ∃ t, PSs (cxOf CX P w K mg base N qual (defScope st) f cdv A outer s H E) (defBody st) t ∧
        t { nx := fun _ H' => Q .non H', rt := Q } (start N vs) H) :
    FnG P w K mg base CX (k + 1) f fd ps sp := by
  obtain ⟨oc, od, kV, doc, pm, an, cdv, ct, osl, rfl, lk, hcd⟩ := F.ex
  refine ⟨len, fun A outer s H args us vs Q E hr hg e0 hb r hsp => ?_⟩
  have hl := len vs H Q E hsp
  have keep : ∀ b o, base.get? b = some o → s.heap.get? b = some o := fun b o e => (e0.bs b o e).1
  have KX : K.In s.heap := e0.mod.kin.keeps keep
  refine codeAny_call_function hr.depth (KX _ _ lk) rfl S.co S.gen rfl
    (PySem.W.codeRec_of KX hcd) (hb _ _ _ _ ?_)
  refine wpAny_newFunctionEnv_cells S.kind (fun y hy => ?_) fun env he s1 x => ?_
  · obtain ⟨n, v⟩ := y
    exact (S.par n (List.of_mem_zip hy).1).elim .inl fun q => .inr ⟨q, PySem.W.cellsFrom_some _ _ _ (.inl q)⟩
  · subst he
    refine ⟨(e0.mod.nolimit.keeps keep).keeps x.toInCall.keep, codeAny_func ?_⟩
    obtain ⟨t, ht, hq⟩ := body cdv A outer s H vs Q E (hr.deeper _) hg hsp
    have I := inv_start (CX := CX) (E := E) S hr.hd e0 hl r x
    refine wpAny_mono (ht.run [] s1 (start N vs) H _ I hq) (fun fl s' hs => ?_) fun _ _ z => z
    cases fl with
    | ret u =>
      obtain ⟨v, σ', H', J, rv, q⟩ := hs
      exact ⟨v, H', J.os, J.bare, J.base, J.hok, rv, q⟩
    | next =>
      obtain ⟨σ', H', J, q⟩ := hs
      exact ⟨.non, H', J.os, J.bare, J.base, J.hok, rfl, q⟩
    | brk =>
      obtain ⟨_, _, _, q⟩ := hs
      exact q.elim
    | cont =>
      obtain ⟨_, _, _, q⟩ := hs
      exact q.elim
/-- .. where nothing that is raised leaves it -/
theorem okG0 {x qual : Str} {st : Stmt} {f : Addr} {fd : FuncData} {N ps : List Str} {k : Nat} {sp : Sp}
    (F : Fun K x qual st f fd) (S : FnScope N ps (defScope st))
    (len : ∀ vs H Q E, sp vs H Q E → vs.length = ps.length)
    (body : ∀ (cdv : Value) (A : Around) (outer : List Env) (s : Shared) (H : Hp) (vs : List V) (Q : VK) (E : XK),
      Room k (A.deeper (envOfC qual (defScope st) s.heap.objs.size f cdv)) → A.guards = some [] → sp vs H Q E →
      ∃ t, PSs (cxOf CX0 P w K mg base N qual (defScope st) f cdv A outer s H E).nox (defBody st) t ∧
        t { nx := fun _ H' => Q .non H', rt := Q } (start N vs) H) :
    FnG P w K mg base CX0 (k + 1) f fd ps sp :=
  okG F S len fun cdv A outer s H vs Q E hr hg h =>
    let ⟨t, a, b⟩ := body cdv A outer s H vs Q E hr hg h
    ⟨t, a.nox, b⟩
end

section
variable {X : Cx} {CX : CXT} {k : Nat} {f : Addr} {fd : FuncData} {ps : List Str} {sp : Sp} {E : XK} {x : Str}
  {p pos : Pos} {e : Expr} {es : List Expr} {t : TA}

theorem runG {pins : List (Addr × Obj)} {σ : L2.St} {H : Hp} {s : Shared} {Q : VK} {us : List Value} {vs : List V} {ds : List Value} {dvs : List V}
    (F : FnG X.prog X.w X.K X.mg X.base CX k f fd ps sp) (hr : Room k X.A) (hg : X.A.guards = some [])
    (hb : Binds X.K fd ps ds) (hd : Vals dvs ds) (hx : Passes CX X E) (I : Inv X pins σ H s) (r : Vals vs us)
    (h : sp (vs ++ dvs) H Q E) :
    wpAny (model X.prog X.w) X.A (call (.ref f) us) (EP X pins σ Q) X.xe s := by
  have r2 : Vals (vs ++ dvs) (us ++ ds) := r.append hd
  have hl : (us ++ ds).length = ps.length := r2.length.symm.trans (F.len _ _ _ _ h)
  refine wpAny_call (codeAny_mono (F.go X.A X.stack s H ⟨us, []⟩ (us ++ ds) (vs ++ dvs) Q E hr hg
    I.env0 (hb s us I.kIn hl) r2 h) fun r s' hq => ?_)
  match r, hq with
  | .error e, hq => exact hx pins σ H s e s' I hq
  | .ok (.ret u), hq => exact I.after hq
  | .ok .next, hq => exact hq.elim
  | .ok .brk, hq => exact hq.elim
  | .ok .cont, hq => exact hq.elim

theorem pe_callG {ds : List Value} {dvs : List V} (F : FnG X.prog X.w X.K X.mg X.base CX k f fd ps sp) (hr : Room k X.A)
    (gd : X.A.guards = some []) (hg : Gl X x) (hm : X.mg x = some (.ref f)) (hk : PySem.W.keepIn X.K (.ref f) = true)
    (hb : Binds X.K fd ps ds) (hd : Vals dvs ds) (hx : Passes CX X E) (ha : PA X (e :: es) t)
    (hdb : (x == ("__debug__" : Str)) = false := by decide)
    (he : starEach (e :: es) X.env = (false, eval e X.env) :: starEach es X.env := by rfl)
    (hpl : (backTo pos (starEach es X.env)).any (·.1) = false := by rfl) :
    PE X (.Call (.Name x p) (e :: es) [] pos) (tCall sp dvs E t) := by
  refine ⟨fun pins s σ H Q I h => wpAny_Call_Name_kw (ld_glob I hg hm ?_ hdb)⟩
  refine PySem.W.callWith_K (h₀ := X.base) I.ok.mod.kin hk ?_ he hpl
  refine thn (ha.run pos pins s σ H _ I h) fun us s1 z => ?_
  obtain ⟨vs, H1, I1, r, q⟩ := z
  exact ⟨I1.kIn, runG F hr gd hb hd hx I1 r q⟩

/-- f(k = v, ..), no value by place -/
def tCallKw (sp : Sp) (E : XK) (n : Nat) (tk : TA) : TE := fun σ H Q => tk σ H fun zs H2 => zs.length = n ∧ sp zs H2 Q E
theorem pe_callKw {ks : List Str} {kws : List Keyword} {tk : TA} (F : FnOk X.prog X.w X.K X.mg X.base CX k f fd ps sp)
    (hr : Room k X.A) (hg : Gl X x) (hm : X.mg x = some (.ref f)) (hk : PySem.W.keepIn X.K (.ref f) = true)
    (hb : ∀ (s : Shared) (ws : List Value), ws.length = ks.length → BindsTo s fd ⟨[], ks.zip ws⟩ (ps.zip ws)) (hx : Passes CX X E)
    (hkw : PK X kws tk) (hall : (backToKw pos (keywordEach kws X.env)).all (·.1.isSome) = true := by rfl)
    (hks : (backToKw pos (keywordEach kws X.env)).filterMap (·.1) = ks := by rfl)
    (hdb : (x == ("__debug__" : Str)) = false := by decide)
    (hpl : ((backTo pos (starEach [] X.env)).any (·.1) || (backToKw pos (keywordEach kws X.env)).any (·.1.isNone)) = false := by rfl) :
    PE X (.Call (.Name x p) [] kws pos) (tCallKw sp E ks.length tk) := by
  refine ⟨fun pins s σ H Q I h => wpAny_Call_Name_kw (ld_glob I hg hm ?_ hdb)⟩
  refine PySem.W.callWith_KW0 (h₀ := X.base) I.ok.mod.kin hk hall ?_ hpl
  refine thn (hkw.run pos pins s σ H _ I h) fun ws s2 z => ?_
  obtain ⟨zs, H2, I2, rz, l, q⟩ := z
  refine ⟨I2.kIn, ?_⟩
  rw [hks]
  refine wpAny_call (codeAny_mono (F.run X.A X.stack s2 H2 ⟨[], ks.zip ws⟩ ws zs Q E hr I2.env0
    (hb s2 ws (rz.length.symm.trans l)) rz q) fun r s' hq => ?_)
  match r, hq with
  | .error e, hq => exact hx pins σ H2 s2 e s' I2 hq
  | .ok (.ret u), hq => exact I2.after hq
  | .ok .next, hq => exact hq.elim
  | .ok .brk, hq => exact hq.elim
  | .ok .cont, hq => exact hq.elim
end

/-! ### repr -/
/-- no object -/
inductive Flat : V → PyData → Prop
  | non : Flat .non .none
  | bl (b : Bool) : Flat (.bl b) (.bool b)
  | int (i : Int) : Flat (.int i) (.int i)
  | str (x : Str) : Flat (.str x) (.str x)
inductive Flats : List V → List PyData → Prop
  | nil : Flats [] []
  | cons {v : V} {vs : List V} {d : PyData} {ds : List PyData} : Flat v d → Flats vs ds → Flats (v :: vs) (d :: ds)
mutual
/-- data that stands in the heap: none, truths, ints, texts, lists, tuples, dicts with int and text keys -/
inductive Dt (K : PySem.W.Frag) (H : Hp) : V → PyData → Prop
  | non : Dt K H .non .none
  | bl (b : Bool) : Dt K H (.bl b) (.bool b)
  | int (i : Int) : Dt K H (.int i) (.int i)
  | str (x : Str) : Dt K H (.str x) (.str x)
  | lst {a : Addr} {xs : List V} {ds : List PyData} : SqL K H a xs → DtAll K H xs ds → Dt K H (.ref a) (.list ds)
  | tup {a : Addr} {xs : List V} {ds : List PyData} : SqT K H a xs → DtAll K H xs ds → Dt K H (.ref a) (.tuple ds)
  | dct {a : Addr} {kvs : List (Key × V)} {ps : List (PyData × PyData)} : H a = some (.dK kvs) →
      Flats (kvs.map fun p => kV p.1) (ps.map (·.1)) → Flats (kvs.map (·.2)) (ps.map (·.2)) →
      Dt K H (.ref a) (.dict ps)
inductive DtAll (K : PySem.W.Frag) (H : Hp) : List V → List PyData → Prop
  | nil : DtAll K H [] []
  | cons {v : V} {vs : List V} {d : PyData} {ds : List PyData} : Dt K H v d → DtAll K H vs ds → DtAll K H (v :: vs) (d :: ds)
end

theorem Flat.reads {h : Heap} {v : V} {d : PyData} {u : Value} (f : Flat v d) (r : RelV v u) : Reads h u d [] := by
  cases f with
  | non => cases r; exact .none
  | bl b => cases r; exact .bool b
  | int i => obtain ⟨t, rfl⟩ := r; exact .int i t
  | str x => obtain ⟨t, rfl⟩ := r; exact .str x t
theorem Flats.reads {h : Heap} : ∀ {vs : List V} {ds : List PyData} {us : List Value}, Flats vs ds → Vals vs us → ReadsAll h us ds []
  | _, _, _, .nil, .nil => .nil
  | _, _, _, .cons f fs, .cons r rs => .cons (f.reads r) (fs.reads rs)
theorem keys_rel {P : Program} {w : World} : ∀ {es : List DictEntry} {vs : List (Key × Value)} {kvs : List (Key × V)}, Pairs (mixKind P w) es vs → KV kvs vs →
    Vals (kvs.map fun p => kV p.1) (es.map (·.key)) ∧ Vals (kvs.map (·.2)) (es.map (·.val))
  | [], _, _, .nil, .nil => ⟨.nil, .nil⟩
  | e :: es, (k, x) :: vs, (k', y) :: kvs, .cons h1 h2 hp, .cons r rs => by
    obtain ⟨a, b⟩ := keys_rel hp rs
    obtain ⟨e1, e2⟩ := r
    have e1' : k' = k := e1
    subst e1'
    refine ⟨.cons ?_ a, .cons ?_ b⟩
    · rcases keyIs_shape h1 with ⟨i, t, q1, q2⟩ | ⟨z, t, q1, q2⟩
      · have q1' : k' = Sum.inl i := q1
        subst q1'
        exact ⟨t, q2⟩
      · have q1' : k' = Sum.inr z := q1
        subst q1'
        exact ⟨t, q2⟩
    · show L2.RelV y e.val
      rw [h2]
      exact e2
section
variable {X : Cx} {pins : List (Addr × Obj)} {σ : L2.St} {H : Hp} {s : Shared}
/-- a dict alone may hold a dict (itself) -/
def DictTop (d : PyData) : Prop := d.hasDict = false ∨ ∃ ps, d = .dict ps
mutual
theorem Dt.reads (I : Inv X pins σ H s) : ∀ (d : PyData) (v : V) (u : Value), Dt X.K H v d → RelV v u →
    ∃ as, Reads s.heap u d as ∧ ((∃ ps, d = .dict ps) → sysModules ∉ as)
  | .none, _, _, h, r => by
    cases h; cases r
    exact ⟨_, .none, fun z => by obtain ⟨_, z⟩ := z; cases z⟩
  | .bool b, _, _, h, r => by
    cases h; cases r
    exact ⟨_, .bool b, fun z => by obtain ⟨_, z⟩ := z; cases z⟩
  | .int i, _, _, h, r => by
    cases h
    obtain ⟨t, rfl⟩ := r
    exact ⟨_, .int i t, fun z => by obtain ⟨_, z⟩ := z; cases z⟩
  | .str x, _, _, h, r => by
    cases h
    obtain ⟨t, rfl⟩ := r
    exact ⟨_, .str x t, fun z => by obtain ⟨_, z⟩ := z; cases z⟩
  | .list ds, _, _, h, r => by
    cases h with
    | lst hs ha =>
      cases r
      obtain ⟨its, rv, ⟨o, n, ho, hc, _, hd⟩, _⟩ := I.list hs
      obtain ⟨as, q⟩ := Dt.readsAll I ds _ its ha rv
      exact ⟨_, .list ho hc hd q, fun z => by obtain ⟨_, z⟩ := z; cases z⟩
  | .tuple ds, _, _, h, r => by
    cases h with
    | tup hs ha =>
      cases r
      obtain ⟨its, rv, ⟨o, ho, hc, n, hd⟩, _⟩ := I.tuple hs
      obtain ⟨as, q⟩ := Dt.readsAll I ds _ its ha rv
      exact ⟨_, .tuple ho hc hd q, fun z => by obtain ⟨_, z⟩ := z; cases z⟩
  | .dict ps, _, _, h, r => by
    cases h with
    | dct e fk fv =>
      cases r
      obtain ⟨_, ns, vs, kv, o, es, ep, ho, hx, hd, _, hp, _⟩ := I.hok _ _ e
      obtain ⟨a, b⟩ := keys_rel hp kv
      refine ⟨_, .dict ho hx.1 hd (fk.reads a) (fv.reads b), fun _ z => ?_⟩
      have z' := List.mem_singleton.mp (by simpa using z)
      rw [← z'] at ns
      simp at ns
theorem Dt.readsAll (I : Inv X pins σ H s) : ∀ (ds : List PyData) (vs : List V) (us : List Value), DtAll X.K H vs ds → Vals vs us → ∃ as, ReadsAll s.heap us ds as
  | [], _, _, h, r => by
    cases h; cases r
    exact ⟨_, .nil⟩
  | d :: ds, _, _, h, r => by
    cases h with
    | cons h1 h2 =>
      cases r with
      | cons r1 r2 =>
        obtain ⟨as, q1, _⟩ := Dt.reads I d _ _ h1 r1
        obtain ⟨bs, q2⟩ := Dt.readsAll I ds _ _ h2 r2
        exact ⟨_, .cons q1 q2⟩
end
end
section
variable {X : Cx}
def rRepr (K : PySem.W.Frag) : List V → Hp → VK → Prop := fun xs H Q => ∃ v d, xs = [v] ∧ Dt K H v d ∧ d.showable = true ∧ DictTop d ∧ d.depth ≤ 20 ∧ ((∃ i, d = .int i) ∨ d.shown.length ≤ sizeLine) ∧ Q (.str d.shown) H
theorem notInt {d : PyData} {A : Prop} (h : (∃ i, d = .int i) ∨ A) (n : ∀ i, d ≠ .int i) : A := h.elim (fun z => let ⟨i, e⟩ := z; absurd e (n i)) id
theorem call_repr {k : Nat} (hr : Room k X.A) (hg : X.A.guards = some []) : CallR X (.builtin "repr") (rRepr X.K) := by
  intro pins s σ H xs us Q I r h
  obtain ⟨v, d, rfl, hd, hs, ht, hp, hz, q⟩ := h
  obtain ⟨u, rfl, ru⟩ := vals1 r
  obtain ⟨as, rd, nsm⟩ := Dt.reads I d v u hd ru
  have hu := hr.units
  have big : ∀ a, u = .ref a → d.shown.length ≤ sizeLine → wpAny (model X.prog X.w) X.A (call (.builtin "repr") [u]) (EP X pins σ Q) X.xe s := by
    rintro a rfl hz
    refine repr_of_reads' rd hs (fun hx => ?_) hg (by omega) (fun _ _ e => e) (fun h' t tk hk => ?_) hz
    · rcases ht with z | z
      · rw [z] at hx; cases hx
      · exact nsm z
    · exact ⟨.str _, H, I.kept hk, ⟨t, rfl⟩, q⟩
  cases hd with
  | non => cases ru; exact PySem.P.repr_of_none ⟨.str _, H, I.tok _, ⟨_, rfl⟩, q⟩
  | bl b => cases ru; exact PySem.P.repr_of_bool ⟨.str _, H, I.tok _, ⟨_, rfl⟩, q⟩
  | int i =>
    obtain ⟨t, rfl⟩ := ru
    exact PySem.P.repr_of_int (by simpa [PyData.showable] using hs) ⟨.str _, H, I.tok _, ⟨_, rfl⟩, by simpa [PyData.shown] using q⟩
  | str x =>
    obtain ⟨t, rfl⟩ := ru
    exact PySem.P.repr_of_str ⟨.str _, H, I.tok _, ⟨_, rfl⟩, by simpa [PyData.shown] using q⟩ (by simpa [PyData.shown] using notInt hz (fun _ z => nomatch z))
  | lst _ _ => exact big _ ru (notInt hz fun _ z => nomatch z)
  | tup _ _ => exact big _ ru (notInt hz fun _ z => nomatch z)
  | dct _ _ _ => exact big _ ru (notInt hz fun _ z => nomatch z)
end

/-! ### the law's own call -/
section
open PySem.W
/-- the abstract heap at the law's entry: the script alone, locked, or nothing where it is the module's own -/
def entryH (K : Frag) (a : Addr) (o : Obj) (xs : List V) : Hp := fun b => if b = a ∧ K.lookup a = none then some (.frz o (.lst xs)) else none
theorem entryH_at {K : Frag} {a b : Addr} {o : Obj} {xs : List V} {u : HO} (h : entryH K a o xs b = some u) : b = a ∧ K.lookup a = none ∧ u = .frz o (.lst xs) := by
  unfold entryH at h
  split at h
  · rename_i c
    exact ⟨c.1, c.2, (Option.some.inj h).symm⟩
  · cases h
theorem law_callG {P : Program} {w : World} {K : Frag} {mg mb : Str → Option Value} {CX : CXT} {k : Nat} {fa a : Addr} {fd : FuncData}
    {x : Str} {sp : Sp} {s₁ : Shared} {vs : List Value} {ns : List Int}
    (KX : K.In s₁.heap) (hns : s₁.heap.Ns mainGlobals mg) (hb : s₁.heap.Ns builtinsNs mb)
    (hbb : ∀ x : Str, x ≠ "__name__" → mb x = bootBuiltins x) (hlim : s₁.heap.NoLimit) (hg : s₁.gens = #[])
    (ha : s₁.heap.get? a = some { cls := .type "list", data := .seq vs.toArray }) (hi : IntsAre vs ns)
    (hl : ns.length ≤ sizeLine) (hr : Room k callerA)
    (F : ∀ base : Heap, K.In base → base.Ns mainGlobals mg → FnG P w K mg base CX k fa fd [x] sp)
    (hbind : ∀ (s : Shared) (u : Value), BindsTo s fd ⟨[u], []⟩ [(x, u)])
    (hsp : ∀ H : Hp, Only H → SqL K H a (ns.map V.int) → sp [.ref a] H (fun v _ => v = .bl true) fun _ _ _ => False)
    (hCX : ∀ H e s', CX [] H s₁ (fun _ _ _ => False) e s' → False) :
    codeAny (model P w) callerA (.call (.ref fa) ⟨[.ref a], []⟩)
      (fun r s' => r = .ok (.ret (.bool true)) ∧ OldK s₁.heap s'.heap ∧ s'.os = s₁.os ∧ AllBare s'.gens) s₁ := by
  have rv := vals_ints hi
  have lv := hi.length
  generalize hH : entryH K a { cls := .type "list", data := .seq vs.toArray } (ns.map V.int) = H
  have hat : ∀ {b : Addr} {u : HO}, H b = some u → b = a ∧ K.lookup a = none ∧ u = .frz { cls := .type "list", data := .seq vs.toArray } (.lst (ns.map V.int)) :=
    fun {b u} e => entryH_at (by rw [hH]; exact e)
  have only : Only H := fun b => by
    cases q : H b with
    | none => exact .inl rfl
    | some u =>
      obtain ⟨_, _, rfl⟩ := hat q
      exact .inr ⟨_, _, rfl⟩
  have sq : SqL K H a (ns.map V.int) := by
    cases hk : K.lookup a with
    | none =>
      refine .inl (.inr ⟨{ cls := .type "list", data := .seq vs.toArray }, ?_⟩)
      rw [← hH]
      exact if_pos ⟨rfl, hk⟩
    | some o =>
      have e := KX a o hk
      rw [ha] at e
      cases e
      exact .inr ⟨_, vs.toArray, _, hk, rfl, rfl, rfl, by rw [List.size_toArray, lv]; exact hl, by simpa using rv⟩
  have hok : HOk P w H s₁.heap := fun b u e => by
    obtain ⟨rfl, _, rfl⟩ := hat e
    exact ⟨ha, by rw [List.length_map]; exact hl, vs, _, rv, ha⟩
  have dictFree : ∀ {b : Addr} {o : Obj} {es : Array DictEntry} {ep : Nat}, s₁.heap.get? b = some o → o.data = .dict es ep → H b = none := fun {b o es ep} e d => by
    cases q : H b with
    | none => rfl
    | some u =>
      obtain ⟨rfl, _, _⟩ := hat q
      rw [ha] at e
      cases e
      cases d
  have nsK : ∀ {b : Addr} {m : Str → Option Value}, s₁.heap.Ns b m → (hidT s₁.heap H).Ns b m :=
    fun {b m} z => let ⟨o, es, ep, e, d, r⟩ := z; ⟨o, es, ep, hidT_get e (dictFree e d), d, r⟩
  have kb : K.In (hidT s₁.heap H) := fun b o e => hidT_get (KX b o e) (by
    cases q : H b with
    | none => rfl
    | some u =>
      obtain ⟨rfl, z, _⟩ := hat q
      rw [z] at e
      cases e)
  have md : Mod K mg (hidT s₁.heap H) := ⟨kb, nsK hns, ⟨mb, nsK hb, hbb⟩, let ⟨mc, h1, h2⟩ := hlim; ⟨mc, nsK h1, h2⟩⟩
  have e0 : Env0 P w K mg (hidT s₁.heap H) callerA [] s₁ H :=
    { frames := rfl, mod := md, bs := fun b o e => of_hidT e, bsz := Nat.le_of_eq (hidT_size _ _), funs := trivial, frf := fun b z => absurd (show b ∈ ([] : List Addr) from z) (by simp), hok := hok, bare := .of_eq hg }
  refine codeAny_mono ((F _ kb (nsK hns)).go callerA [] s₁ H ⟨[.ref a], []⟩ [.ref a] [.ref a] _ _ hr rfl e0 (hbind s₁ (.ref a)) (.cons rfl .nil) (hsp H only sq)) fun r s' h => ?_
  match r, h with
  | .error e, h => exact (hCX H e s' h).elim
  | .ok .next, h => exact h.elim
  | .ok .brk, h => exact h.elim
  | .ok .cont, h => exact h.elim
  | .ok (.ret u), h =>
    obtain ⟨v, H', os, bare, un, hok', r', q⟩ := h
    have q' : v = .bl true := q
    subst q'
    obtain rfl : u = Value.bool true := r'
    refine ⟨rfl, OldK.of_keep fun b o e => ?_, os, bare⟩
    cases z : H b with
    | none => exact un.keep b o e z (fun y => absurd (show b ∈ ([] : List Addr) from y) (by simp)) (by simp)
    | some u =>
      obtain ⟨rfl, _, rfl⟩ := hat z
      have z2 := un.frzs _ _ _ z
      have e2 := (hok' _ _ z2).1
      rw [ha] at e
      cases e
      exact e2
/-- as walk_of, no repr being under way -/
theorem walk_ofG {l : OpenLaw} {n k : Nat} {q : Program} {loose : List Str} {XP : (Str → Option Value) → Heap → Prop} {YP : World → Heap → Prop}
    {d : DefRec} {K : Params → Frag} {CX : World → CXT} {sp : World → Sp} {x : Str}
    (hn : l.most = some n) (hn2 : n ≤ sizeLine) (hdf : d.params.defaults = []) (hr : Room k callerA)
    (hY : ∀ (w : World) (h : Heap), YP w h → (K w.params).In h)
    (F : ∀ (w : World) (mg : Str → Option Value) (fa : Addr) (h : Heap), (K w.params).In h → h.Ns mainGlobals mg →
      mg d.name = some (.ref fa) → ∃ fd : FuncData, (∀ (s : Shared) (u : Value), BindsTo s fd ⟨[u], []⟩ [(x, u)]) ∧
        ∀ base : Heap, (K w.params).In base → base.Ns mainGlobals mg → FnG l.prog w (K w.params) mg base (CX w) k fa fd [x] (sp w))
    (hsp : ∀ (w : World) (H : Hp) (a : Addr) (ns : List Int), ns.length ≤ n → Only H → SqL (K w.params) H a (ns.map V.int) →
      sp w [.ref a] H (fun v _ => v = .bl true) fun _ _ _ => False)
    (hCX : ∀ (w : World) (H : Hp) (s : Shared) (e : Value) (s' : Shared), CX w [] H s (fun _ _ _ => False) e s' → False) :
    WalkO q loose XP YP l.row.toRowW d [] (fun f vs => PySem.call f vs) := by
  refine Att.attach_call hn hdf fun w s₀ s₁ mg mb fa o pm cd doc a vs ns G Y ho hd hcd hmg hobj hints hlen hg => ?_
  obtain ⟨fd, b1, b2⟩ := F w mg fa _ (hY w _ Y) G.T.g hmg
  exact law_callG (hY w _ Y) G.T.g G.T.b G.T.builtins G.T.nolimit hg hobj hints (Nat.le_trans hlen hn2) hr b2 b1
    (fun H hO hS => hsp w H a ns hlen hO hS) fun H e s' => hCX w H s₁ e s'
end
end Rc

set_option exponentiation.threshold 400
namespace Rc
open PySem PySem.Spec PyProof.Rows L2
/-! ### the mathematics -/
def abc : List Nat := (List.range 26).map (· + 97)
def nameT (z : Str) : Bool := decide (1 ≤ z.length) && decide (z.length ≤ 8) && z.cps.toList.all fun c => decide (c ∈ abc)
def nameD : PyData → Bool
  | .str z => nameT z
  | _ => false
def wholeD : PyData → Bool
  | .int _ => true
  | _ => false
def amountD : PyData → Bool
  | .int i => decide (1 ≤ i)
  | _ => false
def tyD : PyData → String
  | .none => "NoneType"
  | .bool _ => "bool"
  | .int _ => "int"
  | .str _ => "str"
  | .list _ => "list"
  | .tuple _ => "tuple"
  | .dict _ => "dict"
def strD : PyData → Bool
  | .str _ => true
  | _ => false
def boolD : PyData → Bool
  | .bool _ => true
  | _ => false
theorem Dt.ty {K : PySem.W.Frag} {H : Hp} {v : V} {d : PyData} (h : Dt K H v d) : TyX K H v (.type (tyD d)) := by
  cases h with
  | non => exact .base .non
  | bl b => exact .base (.bl b)
  | int i => exact .base (.int i)
  | str x => exact .base (.str x)
  | lst q _ =>
    rcases q with (q | ⟨o, q⟩) | ⟨o, its, n, hk, hc, _⟩
    · exact .base (.lst q)
    · exact .base (.frz q)
    · exact .kList hk hc
  | tup q _ =>
    rcases q with (q | ⟨o, q⟩) | ⟨o, its, n, hk, hc, _⟩
    · exact .base (.tup q)
    · exact .fTuple q
    · exact .kTuple hk hc
  | dct q _ _ => exact .base (.dK q)
theorem kit_str {K : PySem.W.Frag} (d : PyData) : PySem.W.kitOne K (.type (tyD d)) (.type "str") = some (strD d) :=
  match d with
  | PyData.none => kit_ty (a := "NoneType") (b := "str") (r := false) (by decide +kernel)
  | .bool _ => kit_ty (a := "bool") (b := "str") (r := false) (by decide +kernel)
  | .int _ => kit_ty (a := "int") (b := "str") (r := false) (by decide +kernel)
  | .str _ => kit_ty (a := "str") (b := "str") (r := true) (by decide +kernel)
  | .list _ => kit_ty (a := "list") (b := "str") (r := false) (by decide +kernel)
  | .tuple _ => kit_ty (a := "tuple") (b := "str") (r := false) (by decide +kernel)
  | .dict _ => kit_ty (a := "dict") (b := "str") (r := false) (by decide +kernel)
theorem kit_int {K : PySem.W.Frag} (d : PyData) : PySem.W.kitOne K (.type (tyD d)) (.type "int") = some (wholeD d || boolD d) :=
  match d with
  | PyData.none => kit_ty (a := "NoneType") (b := "int") (r := false) (by decide +kernel)
  | .bool _ => kit_ty (a := "bool") (b := "int") (r := true) (by decide +kernel)
  | .int _ => kit_ty (a := "int") (b := "int") (r := true) (by decide +kernel)
  | .str _ => kit_ty (a := "str") (b := "int") (r := false) (by decide +kernel)
  | .list _ => kit_ty (a := "list") (b := "int") (r := false) (by decide +kernel)
  | .tuple _ => kit_ty (a := "tuple") (b := "int") (r := false) (by decide +kernel)
  | .dict _ => kit_ty (a := "dict") (b := "int") (r := false) (by decide +kernel)
theorem kit_bool {K : PySem.W.Frag} (d : PyData) : PySem.W.kitOne K (.type (tyD d)) (.type "bool") = some (boolD d) :=
  match d with
  | PyData.none => kit_ty (a := "NoneType") (b := "bool") (r := false) (by decide +kernel)
  | .bool _ => kit_ty (a := "bool") (b := "bool") (r := true) (by decide +kernel)
  | .int _ => kit_ty (a := "int") (b := "bool") (r := false) (by decide +kernel)
  | .str _ => kit_ty (a := "str") (b := "bool") (r := false) (by decide +kernel)
  | .list _ => kit_ty (a := "list") (b := "bool") (r := false) (by decide +kernel)
  | .tuple _ => kit_ty (a := "tuple") (b := "bool") (r := false) (by decide +kernel)
  | .dict _ => kit_ty (a := "dict") (b := "bool") (r := false) (by decide +kernel)
theorem same_upd {H : Hp} {p : Addr} {o : HO} (h : H p = none) : Same H (upd H p o) := fun b x e => by
  rw [upd_ne (ne_of_none e h)]
  exact e
mutual
theorem Dt.same {K : PySem.W.Frag} {H H' : Hp} (e : Same H H') : ∀ {v : V} (d : PyData), Dt K H v d → Dt K H' v d
  | _, .none, h => by cases h; exact .non
  | _, .bool _, h => by cases h; exact .bl _
  | _, .int _, h => by cases h; exact .int _
  | _, .str _, h => by cases h; exact .str _
  | _, .list ds, h => by
    cases h with
    | lst q a => exact .lst (e.seq q) (DtAll.same e ds a)
  | _, .tuple ds, h => by
    cases h with
    | tup q a =>
      refine .tup ?_ (DtAll.same e ds a)
      rcases q with (q | ⟨o, q⟩) | q
      · exact .inl (.inl (e _ _ q))
      · exact .inl (.inr ⟨o, e _ _ q⟩)
      · exact .inr q
  | _, .dict ps, h => by
    cases h with
    | dct q a b => exact .dct (e _ _ q) a b
theorem DtAll.same {K : PySem.W.Frag} {H H' : Hp} (e : Same H H') : ∀ {vs : List V} (ds : List PyData), DtAll K H vs ds → DtAll K H' vs ds
  | _, [], h => by cases h; exact .nil
  | _, d :: ds, h => by
    cases h with
    | cons a b => exact .cons (Dt.same e d a) (DtAll.same e ds b)
end
theorem iteNot {b : Bool} {A B : Prop} (e : ¬ b = true) (h : B) : if b = true then A else B := by
  rw [if_neg e]
  exact h
theorem letters_abc : (("abcdefghijklmnopqrstuvwxyz" : String) : Str).cps.toList = abc := by decide +kernel
/-- a text that is short enough -/
def ShortD (d : PyData) : Prop := ∀ z, d = .str z → z.length ≤ 1000
theorem small_line {n : Nat} (h : n ≤ 1000) : n ≤ sizeLine := Nat.le_of_lt (small1000 h)
/-! ### written data -/
theorem PE.of {X : Cx} {e : Expr} {t t' : TE} (h : PE X e t) (i : ∀ σ H Q, t' σ H Q → t σ H Q) : PE X e t' :=
  ⟨fun pins s σ H Q I q => h.run pins s σ H Q I (i σ H Q q)⟩
theorem PA.of {X : Cx} {es : List Expr} {t t' : TA} (h : PA X es t) (i : ∀ σ H Q, t' σ H Q → t σ H Q) : PA X es t' :=
  ⟨fun pos pins s σ H Q I q => h.run pos pins s σ H Q I (i σ H Q q)⟩
/-- what stands in H' and did not in H -/
def minus (H' H : Hp) : Hp := fun b => if H b = none then H' b else none
theorem minus_some {H' H : Hp} {b : Addr} {o : HO} (h : minus H' H b = some o) : H b = none ∧ H' b = some o := by
  unfold minus at h
  split at h
  · rename_i c
    exact ⟨c, h⟩
  · cases h
theorem minus_mk {H' H : Hp} {b : Addr} {o : HO} (h : H b = none) (h' : H' b = some o) : minus H' H b = some o := by
  unfold minus
  rw [if_pos h]
  exact h'
theorem minus_sub {H' H : Hp} : Same (minus H' H) H' := fun _ _ e => (minus_some e).2
theorem minus_l {H H1 H2 : Hp} (s : Same H1 H2) : Same (minus H1 H) (minus H2 H) := fun b o e => minus_mk (minus_some e).1 (s b o (minus_some e).2)
theorem minus_r {H H1 H2 : Hp} (s : Same H H1) : Same (minus H2 H1) (minus H2 H) := fun b o e => minus_mk (s.free (minus_some e).1) (minus_some e).2
theorem minus_at {H H1 : Hp} {p : Addr} {o : HO} (s : Same H H1) (h : H1 p = none) : minus (upd H1 p o) H p = some o := minus_mk (s.free h) upd_same
/-- an expression that gives the datum d, of new objects alone, all else as it was -/
def tLit (K : PySem.W.Frag) (d : PyData) : TE := fun _ H Q => ∀ v H', Same H H' → Dt K (minus H' H) v d → Q v H'
def tLits (K : PySem.W.Frag) (ds : List PyData) : TA := fun _ H Q => ∀ vs H', Same H H' → DtAll K (minus H' H) vs ds → Q vs H'
theorem DtAll.len {K : PySem.W.Frag} {H : Hp} : ∀ {vs : List V} {ds : List PyData}, DtAll K H vs ds → vs.length = ds.length
  | _, _, .nil => rfl
  | _, _, .cons _ t => by rw [List.length_cons, List.length_cons, DtAll.len t]
section
variable {X : Cx} {pos : Pos} {j : Nat} {e : Expr} {es : List Expr} {d : PyData} {ds : List PyData}
theorem l_non {j} : PE X (.Constant .none j pos) (tLit X.K .none) := PE.of pe_non fun _ H _ q => q _ H (Same.refl _) .non
theorem l_bl {b j} : PE X (.Constant (.bool b) j pos) (tLit X.K (.bool b)) := PE.of pe_bl fun _ H _ q => q _ H (Same.refl _) (.bl _)
theorem l_int {i j} : PE X (.Constant (.int i) j pos) (tLit X.K (.int i)) := PE.of pe_int fun _ H _ q => q _ H (Same.refl _) (.int _)
theorem l_str {x j} : PE X (.Constant (.str x) j pos) (tLit X.K (.str x)) := PE.of pe_str fun _ H _ q => q _ H (Same.refl _) (.str _)
theorem l_neg {i j} {p : Pos} : PE X (.UnaryOp .USub (.Constant (.int i) j p) pos) (tLit X.K (.int (-i))) := PE.of (pe_un un_neg pe_int) fun _ H _ q => ⟨i, rfl, q _ H (Same.refl _) (.int _)⟩
theorem ls_nil : PA X [] (tLits X.K []) := PA.of pa_nil fun _ H _ q => q _ H (Same.refl _) .nil
theorem ls_cons (h : PE X e (tLit X.K d)) (hs : PA X es (tLits X.K ds)) (hx : starEach (e :: es) X.env = (false, eval e X.env) :: starEach es X.env := by rfl) : PA X (e :: es) (tLits X.K (d :: ds)) :=
  PA.of (pa_cons h hs hx) fun _ _ _ q v H1 s1 h1 vs H2 s2 h2 => q (v :: vs) H2 (s1.trans s2) (.cons (Dt.same (minus_l s2) _ h1) (DtAll.same (minus_r s1) _ h2))
theorem l_lst (hs : PA X es (tLits X.K ds)) (hz : ds.length ≤ 1000 := by decide) : PE X (.List es pos) (tLit X.K (.list ds)) :=
  PE.of (pe_lst hs) fun _ _ _ q vs H1 s1 h1 => ⟨by rw [h1.len]; exact small_line hz, fun p hp => q _ _ (s1.trans (same_upd hp)) (.lst (.inl (.inl (minus_at s1 hp))) (DtAll.same (minus_l (same_upd hp)) _ h1))⟩
theorem l_tup {k} (hs : PA X es (tLits X.K ds)) (hz : ds.length ≤ 1000 := by decide) : PE X (.Tuple es k pos) (tLit X.K (.tuple ds)) :=
  PE.of (pe_tup hs) fun _ _ _ q vs H1 s1 h1 => ⟨by rw [h1.len]; exact small_line hz, fun p hp => q _ _ (s1.trans (same_upd hp)) (.tup (.inl (.inl (minus_at s1 hp))) (DtAll.same (minus_l (same_upd hp)) _ h1))⟩
theorem l_dct0 : PE X (.Dict [] [] pos) (tLit X.K (.dict [])) :=
  PE.of pe_dnewK fun _ _ _ q p hp => q _ _ (same_upd hp) (.dct (minus_at (Same.refl _) hp) .nil .nil)
theorem l_dctS {z i j1 j2} {p1 p2 : Pos} : PE X (.Dict [some (.Constant (.str z) j1 p1)] [.Constant (.int i) j2 p2] pos) (tLit X.K (.dict [(.str z, .int i)])) :=
  PE.of (pe_disp (pps_cons pe_str pe_int pps_nil) (by rfl) (by rfl) (fun z => by cases z) (by show 1 ≤ 15; decide)) fun _ _ _ q p hp =>
    ⟨upd_same, [(.inr z, .int i)], rfl, by show 1 ≤ 15; decide, by
      rw [upd_upd]
      exact q _ _ (same_upd hp) (.dct (minus_at (Same.refl _) hp) (.cons (.str z) .nil) (.cons (.int i) .nil))⟩
theorem l_dctI {z i j1 j2} {p1 p2 : Pos} : PE X (.Dict [some (.Constant (.int i) j1 p1)] [.Constant (.str z) j2 p2] pos) (tLit X.K (.dict [(.int i, .str z)])) :=
  PE.of (pe_disp (pps_cons pe_int pe_str pps_nil) (by rfl) (by rfl) (fun z => by cases z) (by show 1 ≤ 15; decide)) fun _ _ _ q p hp =>
    ⟨upd_same, [(.inl i, .str z)], rfl, by show 1 ≤ 15; decide, by
      rw [upd_upd]
      exact q _ _ (same_upd hp) (.dct (minus_at (Same.refl _) hp) (.cons (.int i) .nil) (.cons (.str z) .nil))⟩
/-- a written list of data as a list -/
def tLitL (K : PySem.W.Frag) (ds : List PyData) : TE := fun _ H Q => ∀ l xs H', Same H H' → H l = none → H' l = some (.lst xs) → DtAll K (minus H' H) xs ds → Q (.ref l) H'
theorem l_list (hs : PA X es (tLits X.K ds)) (hz : ds.length ≤ 1000 := by decide) : PE X (.List es pos) (tLitL X.K ds) :=
  PE.of (pe_lst hs) fun _ _ _ q vs H1 s1 h1 => ⟨by rw [h1.len]; exact small_line hz, fun p hp => q p vs _ (s1.trans (same_upd hp)) (s1.free hp) upd_same (DtAll.same (minus_l (same_upd hp)) _ h1)⟩
end
theorem DtAll.append {K : PySem.W.Frag} {H : Hp} : ∀ {vs us : List V} {ds es : List PyData}, DtAll K H vs ds → DtAll K H us es → DtAll K H (vs ++ us) (ds ++ es)
  | _, _, _, _, .nil, h => h
  | _, _, _, _, .cons a t, h => .cons a (DtAll.append t h)
theorem DtAll.mem {K : PySem.W.Frag} {H : Hp} : ∀ {vs : List V} {ds : List PyData} {v : V}, DtAll K H vs ds → v ∈ vs → ∃ d, d ∈ ds ∧ Dt K H v d
  | _, _, _, .nil, h => by cases h
  | _, _, _, .cons a t, h => by
    rcases List.mem_cons.mp h with e | e
    · subst e
      exact ⟨_, List.mem_cons_self, a⟩
    · obtain ⟨d, h1, h2⟩ := DtAll.mem t e
      exact ⟨d, List.mem_cons_of_mem _ h1, h2⟩
/-- an item by a number in the bounds -/
theorem pick {α : Type} {xs : List α} {i : Int} (h0 : 0 ≤ i) (h1 : i < xs.length) : ∃ v, atI xs i = some v ∧ v ∈ xs := by
  obtain ⟨n, rfl⟩ := Int.eq_ofNat_of_zero_le h0
  have hn : n < xs.length := by omega
  exact ⟨xs[n], atI_nat (List.getElem?_eq_getElem hn), List.getElem_mem hn⟩
/-- a pot: two numbers -/
def Pot (H : Hp) (p : Addr) : Prop := ∃ x y : Int, H p = some (.lst [.int x, .int y]) ∧ 0 ≤ x ∧ 0 ≤ y ∧ y < 2147483648
/-- all but p as it was -/
def But (p : Addr) (H H' : Hp) : Prop := ∀ b o, b ≠ p → H b = some o → H' b = some o
theorem But.refl (p : Addr) (H : Hp) : But p H H := fun _ _ _ e => e
theorem But.trans {p : Addr} {H H1 H2 : Hp} (a : But p H H1) (b : But p H1 H2) : But p H H2 := fun c o n e => b c o n (a c o n e)
theorem But.new {p q : Addr} {H : Hp} {o : HO} (h : H q = none) : But p H (upd H q o) := fun b x _ e => same_upd h b x e
theorem But.at {p : Addr} {H : Hp} {o : HO} : But p H (upd H p o) := fun b x n e => by rw [upd_ne n]; exact e
theorem Pot.new {p q : Addr} {H : Hp} {o : HO} (h : H q = none) (P : Pot H p) : Pot (upd H q o) p := by
  obtain ⟨x, y, e, r⟩ := P
  exact ⟨x, y, same_upd h _ _ e, r⟩
theorem Pot.but {p q : Addr} {H H' : Hp} (P : Pot H p) (b : But q H H') (n : p ≠ q) : Pot H' p := by
  obtain ⟨x, y, e, r⟩ := P
  exact ⟨x, y, b _ _ n e, r⟩
def LitM (m : Int) : Prop := 0 < m ∧ m.natAbs.log2 < 9000
/-- all but p -/
def away (p : Addr) (H : Hp) : Hp := fun b => if b = p then none else H b
theorem away_some {p b : Addr} {H : Hp} {o : HO} (h : away p H b = some o) : b ≠ p ∧ H b = some o := by
  unfold away at h
  split at h
  · cases h
  · rename_i c
    exact ⟨c, h⟩
theorem away_mk {p b : Addr} {H : Hp} {o : HO} (n : b ≠ p) (h : H b = some o) : away p H b = some o := by
  unfold away
  rw [if_neg n]
  exact h
theorem But.away {p : Addr} {H H' : Hp} (b : But p H H') : Same (away p H) (away p H') := fun c o e => away_mk (away_some e).1 (b c o (away_some e).1 (away_some e).2)
theorem away_sub {p : Addr} {H : Hp} : Same (away p H) H := fun _ _ e => (away_some e).2
/-! ### texts that are drawn -/
def Tx (n : Nat) (z : Str) : Prop := z.length ≤ n ∧ ∀ c ∈ z.cps.toList, c < 128
theorem Tx.mono {n m : Nat} {z : Str} (h : Tx n z) (hn : n ≤ m) : Tx m z := ⟨Nat.le_trans h.1 hn, h.2⟩
theorem Tx.app {n m : Nat} {z y : Str} (h : Tx n z) (g : Tx m y) : Tx (n + m) (z ++ y) := by
  refine ⟨by rw [Str.length_append]; exact Nat.add_le_add h.1 g.1, fun c hc => ?_⟩
  rw [Str.cps_append, Array.toList_append, List.mem_append] at hc
  exact hc.elim (h.2 c) (g.2 c)
theorem Tx.cut {n : Nat} {z : Str} (h : Tx n z) (lo hi : Option Int) : Tx n (cutS z lo hi) :=
  ⟨Nat.le_trans (cutS_length z lo hi) h.1, fun c hc => h.2 c (List.mem_of_mem_drop (List.mem_of_mem_take hc))⟩
theorem joinL_ones : ∀ cs : List Nat, TL.joinL [] (cs.map fun c => [c]) = cs
  | [] => rfl
  | [_] => rfl
  | c :: d :: r => by
    show [c] ++ ([] ++ TL.joinL [] ((d :: r).map fun c => [c])) = c :: d :: r
    rw [joinL_ones (d :: r)]
    rfl
theorem join_ones (cs : List Nat) : (Txt.join "" (cs.map fun c => (⟨#[c]⟩ : Str))).cps.toList = cs := by
  rw [TL.join_eq]
  have h := TL.tl_join "" (cs.map fun c => (⟨#[c]⟩ : Str))
  have e : (cs.map fun c => (⟨#[c]⟩ : Str)).map TL.tl = cs.map fun c => [c] := by
    rw [List.map_map]
    rfl
  rw [e] at h
  exact h.trans (joinL_ones cs)
theorem Tx.join {cs : List Nat} {n : Nat} (hn : cs.length ≤ n) (h : ∀ c ∈ cs, c < 128) : Tx n (Txt.join "" (cs.map fun c => (⟨#[c]⟩ : Str))) := by
  have e := join_ones cs
  refine ⟨?_, fun c hc => h c (e ▸ hc)⟩
  show (Txt.join "" (cs.map fun c => (⟨#[c]⟩ : Str))).cps.size ≤ n
  rw [← Array.length_toList, e]
  exact hn
theorem lens_ones : ∀ cs : List Nat, ((cs.map fun c => (⟨#[c]⟩ : Str)).map (·.length)).sum = cs.length
  | [] => rfl
  | c :: r => by
    show 1 + ((r.map fun c => (⟨#[c]⟩ : Str)).map (·.length)).sum = r.length + 1
    rw [lens_ones r]
    omega
theorem litM (m : Int) (h : 0 < m) (h2 : m < 2 ^ 300) : LitM m := by
  refine ⟨h, ?_⟩
  have a : m.natAbs < 2 ^ 300 := by omega
  exact Nat.lt_trans (PySem.Flt.log2_lt_of (by decide) a) (by decide)
theorem same_but {p : Addr} {H H' : Hp} (s : Same H H') : But p H H' := fun b o _ e => s b o e
theorem Pot.same {p : Addr} {H H' : Hp} (h : Pot H p) (s : Same H H') : Pot H' p := by
  obtain ⟨x, y, e, r⟩ := h
  exact ⟨x, y, s _ _ e, r⟩
end Rc

namespace Rc
open PySem PySem.Spec PyProof.Rows L2
def topS (i : Nat) : Stmt := PySem.Challenge.pw_ringclear_k95_copies.main.body.getD i (.Pass ⟨0, 0, 0, 0⟩)
section
variable {P : Program} {w : World} {K : PySem.W.Frag} {mg : Str → Option Value} {base : Heap}
/-! ### is_name -/
abbrev sName : Stmt := topS 16
theorem scName : FnScope ["thing", "sign"] ["thing"] (defScope sName) := ⟨rfl, rfl, rfl, by decide +kernel, rfl, by decide +kernel, by decide +kernel⟩
def spBool (K : PySem.W.Frag) (f : PyData → Bool) : Sp := fun vs H Q _ => ∃ v d, vs = [v] ∧ Dt K H v d ∧ ShortD d ∧ ∀ H', Same H H' → Q (.bl (f d)) H'
structure Blt (mg : Str → Option Value) : Prop where
  isi : mg "isinstance" = none
  str : mg "str" = none
  int : mg "int" = none
  bool : mg "bool" = none
  len : mg "len" = none
  all : mg "all" = none
theorem ok_name {f : Addr} {fd : FuncData} {k : Nat} (F : Fun K "is_name" "is_name" sName f fd) (B : Blt mg)
    (gL : ∃ t, mg "LETTERS" = some (.str "abcdefghijklmnopqrstuvwxyz" t)) (gM : ∃ t, mg "LONGEST" = some (.int 8 t)) :
    FnOk P w K mg base CX0 (k + 1) f fd ["thing"] (spBool K nameD) := by
  obtain ⟨tL, gL⟩ := gL
  obtain ⟨tM, gM⟩ := gM
  refine F.ok scName (fun vs H Q E h => ?_) (fun cdv A outer s H vs Q E hr h => ?_)
  · obtain ⟨v, d, rfl, _⟩ := h
    rfl
  · obtain ⟨v, d, rfl, hd, hz, q⟩ := h
    refine ⟨_, pss_cons (ps_if (pt_not (pt_val (pe_callB call_isi (by rfl) B.isi (by decide +kernel) (pa_cons (pv 0) (pa_cons (pe_bltn (v := .ty "str") (by rfl) B.str (by decide +kernel) rfl) pa_nil)))))
        (pss_one (ps_ret pe_bl)) pss_nil)
      (pss_cons (ps_if (PW.pt (pw_or (pt_cmpR op_lt (pe_callB call_len_str (by rfl) B.len PySem.boot_len (pa_cons (pv 0) pa_nil)) pe_int (nomark _))
          (pw_or1 (pt_cmpR op_gt (pe_callB call_len_str (by rfl) B.len PySem.boot_len (pa_cons (pv 0) pa_nil)) (pe_glob (v := .int 8) (by rfl) gM ⟨_, rfl⟩) (nomark _)))))
        (pss_one (ps_ret pe_bl)) pss_nil)
      (pss_one (ps_ret (pe_callB (cr_all rfl) (by rfl) B.all (by decide +kernel) (pa_cons
        (pe_lc (own := [("sign", 1)]) (g := gName 1) (tt := tYes) rfl scName.nd (pi_str (pv 0)) (blkOk_by (N := ["thing", "sign"]) (sc := defScope sName) (own := [("sign", 1)]) (by decide +kernel))
          (fun _ _ _ _ _ => pg_name (i := 1) scName.nd rfl (.inl rfl)) (fun _ _ _ _ _ => pts_nil)
          (fun _ _ _ _ _ => pe_cmpR op_in_sign (pv 1) (pe_glob (v := .str "abcdefghijklmnopqrstuvwxyz") (by rfl) gL ⟨_, rfl⟩) (by rfl))) pa_nil))))), ?_⟩
    refine ⟨v, rfl, v, .ty "str", _, _, strD d, rfl, .ty "str", hd.ty, kit_str d, _, rfl, ?_⟩
    cases hd with
    | str z =>
      refine iteF ?_
      have hz1 := hz z rfl
      have hz2 := small_line hz1
      refine ⟨.str z, rfl, z, rfl, hz2, _, _, rfl, rfl, _, rfl, ite2 (fun e => ?_) (fun e => ?_)⟩
      · refine iteT ?_
        have e1 : (z.length : Int) < 1 := of_decide_eq_true e
        have en : nameD (.str z) = false := by
          show nameT z = false
          unfold nameT
          rw [decide_eq_false (show ¬ 1 ≤ z.length by omega)]
          rfl
        rw [en] at q
        exact q _ (Same.refl _)
      · have e1 : ¬ (z.length : Int) < 1 := fun c => e (decide_eq_true c)
        refine ⟨.str z, rfl, z, rfl, hz2, _, _, rfl, rfl, _, rfl, ite2 (fun e2 => ?_) (fun e2 => ?_)⟩
        · have e3 : (8 : Int) < z.length := of_decide_eq_true e2
          have en : nameD (.str z) = false := by
            show nameT z = false
            unfold nameT
            rw [decide_eq_false (show ¬ z.length ≤ 8 by omega), Bool.and_false]
            rfl
          rw [en] at q
          exact q _ (Same.refl _)
        · have e3 : ¬ (8 : Int) < z.length := fun c => e2 (decide_eq_true c)
          refine ⟨.str z, rfl, z, rfl, fun D hD => lc_it walk_str (fun i H' => Same H H' ∧ H' D = some (.lst ((z.cps.toList.take i).map fun c => .bl (decide (c ∈ abc)))))
            ⟨same_upd hD, upd_same⟩ (fun _ _ _ _ => trivial) (fun i x H1 H2 hi hP hY => ?_) (fun H1 hP => ?_)⟩
          · obtain ⟨rfl, c, hc, rfl⟩ := hY
            refine ⟨rfl, .str ⟨#[c]⟩, rfl, c, _, rfl, rfl, _, hP.2, ?_, ?_, ?_⟩
            · rw [List.length_map, List.length_take]
              exact Nat.lt_of_le_of_lt (Nat.min_le_left _ _) (small1000 (by have : z.cps.size = z.length := rfl; omega))
            · intro b o eb
              rw [upd_ne (ne_of_none eb hD)]
              exact hP.1 b o eb
            · rw [upd_same, List.take_add_one, List.map_append]
              have g : z.cps.toList[i]? = some c := by rw [Array.getElem?_toList]; exact hc
              rw [g, letters_abc]
              rfl
          · refine ⟨D, z.cps.toList.map fun c => decide (c ∈ abc), rfl, .inl (.inl ?_), ?_⟩
            · have ez : z.cps.size = z.cps.toList.length := rfl
              rw [hP.2, ez, List.take_length, List.map_map]
              rfl
            · have en : nameD (.str z) = (z.cps.toList.map fun c => decide (c ∈ abc)).all id := by
                show nameT z = _
                unfold nameT
                rw [decide_eq_true (show 1 ≤ z.length by omega), decide_eq_true (show z.length ≤ 8 by omega), List.all_map]
                rfl
              rw [← en]
              exact q _ hP.1
    | _ => exact iteT (q _ (Same.refl _))
/-! ### is_whole, is_amount -/
abbrev sWhole : Stmt := topS 17
theorem scWhole : FnScope ["thing"] ["thing"] (defScope sWhole) := ⟨rfl, rfl, rfl, by decide +kernel, rfl, by decide +kernel, by decide +kernel⟩
theorem whole_eq (d : PyData) : (if (wholeD d || boolD d) = true then !boolD d else false) = wholeD d := by cases d <;> rfl
theorem ok_whole {f : Addr} {fd : FuncData} {k : Nat} (F : Fun K "is_whole" "is_whole" sWhole f fd) (B : Blt mg) :
    FnOk P w K mg base CX0 (k + 1) f fd ["thing"] (spBool K wholeD) := by
  refine F.ok scWhole (fun vs H Q E h => ?_) (fun cdv A outer s H vs Q E hr h => ?_)
  · obtain ⟨v, d, rfl, _⟩ := h
    rfl
  · obtain ⟨v, d, rfl, hd, hz, q⟩ := h
    refine ⟨_, pss_one (ps_ret (pe_and (pe_callB call_isi (by rfl) B.isi (by decide +kernel) (pa_cons (pv 0) (pa_cons (pe_bltn (v := .ty "int") (by rfl) B.int (by decide +kernel) rfl) pa_nil)))
      (pe_one (pe_not (pe_callB call_isi (by rfl) B.isi (by decide +kernel) (pa_cons (pv 0) (pa_cons (pe_bltn (v := .ty "bool") (by rfl) B.bool (by decide +kernel) rfl) pa_nil))))))), ?_⟩
    refine ⟨v, rfl, v, .ty "int", _, _, _, rfl, .ty "int", hd.ty, kit_int d, _, rfl, ?_⟩
    have e := whole_eq d
    have q1 := q H (Same.refl _)
    cases c : (wholeD d || boolD d) with
    | true =>
      rw [c, if_pos rfl] at e
      exact iteT ⟨v, rfl, v, .ty "bool", _, _, _, rfl, .ty "bool", hd.ty, kit_bool d, _, rfl, by rw [e]; exact q1⟩
    | false =>
      rw [c, if_neg Bool.false_ne_true] at e
      exact iteF (by rw [e]; exact q1)
abbrev sAmount : Stmt := topS 18
theorem scAmount : FnScope ["thing"] ["thing"] (defScope sAmount) := ⟨rfl, rfl, rfl, by decide +kernel, rfl, by decide +kernel, by decide +kernel⟩
theorem ok_amount {f fW : Addr} {fd fdW : FuncData} {k : Nat} (F : Fun K "is_amount" "is_amount" sAmount f fd) (FW : Fun K "is_whole" "is_whole" sWhole fW fdW)
    (bW : Binds K fdW ["thing"] []) (gW : mg "is_whole" = some (.ref fW)) (B : Blt mg) :
    FnOk P w K mg base CX0 (k + 2) f fd ["thing"] (spBool K amountD) := by
  have GW : FnOk P w K mg base CX0 (k + 1) fW fdW ["thing"] (spBool K wholeD) := ok_whole FW B
  refine F.ok scAmount (fun vs H Q E h => ?_) (fun cdv A outer s H vs Q E hr h => ?_)
  · obtain ⟨v, d, rfl, _⟩ := h
    rfl
  · obtain ⟨v, d, rfl, hd, hz, q⟩ := h
    refine ⟨_, pss_one (ps_ret (pe_and (pe_call GW hr (by rfl) gW FW.kp bW .nil pass0 (pa_cons (pv 0) pa_nil)) (pe_one (pe_cmpR op_ge (pv 0) pe_int (nomark _))))), ?_⟩
    refine ⟨v, rfl, v, d, rfl, hd, hz, fun H' sm => ⟨_, rfl, ?_⟩⟩
    have q1 := q H' sm
    cases hd with
    | int i => exact iteT ⟨_, rfl, i, 1, rfl, rfl, q1⟩
    | _ => exact iteF q1
end
end Rc

namespace Rc
open PySem PySem.Spec PyProof.Rows L2
section
variable {P : Program} {w : World} {K : PySem.W.Frag} {mg : Str → Option Value} {base : Heap}
structure Blt2 (mg : Str → Option Value) : Prop where
  abs : mg "abs" = none
  max : mg "max" = none
  min : mg "min" = none
  divmod : mg "divmod" = none
  range : mg "range" = none
  repr : mg "repr" = none
/-! ### _law_pot -/
abbrev sPot : Stmt := topS 50
theorem scPot : FnScope ["_law_script", "_law_k", "_law_cell"] ["_law_script", "_law_k"] (defScope sPot) := ⟨rfl, rfl, rfl, by decide +kernel, rfl, by decide +kernel, by decide +kernel⟩
def spPot (K : PySem.W.Frag) : Sp := fun vs H Q _ => ∃ (a : Addr) (ns : List Int) (k : Int), vs = [.ref a, .int k] ∧ SqL K H a (ns.map V.int) ∧ 0 ≤ k ∧ k ≤ 1000 ∧
  ∀ p o, H p = none → Pot (upd H p o) p → Q (.ref p) (upd H p o)
theorem ok_pot {f : Addr} {fd : FuncData} {k : Nat} (F : Fun K "_law_pot" "_law_pot" sPot f fd) (B : Blt mg) (B2 : Blt2 mg) :
    FnOk P w K mg base CX0 (k + 1) f fd ["_law_script", "_law_k"] (spPot K) := by
  refine F.ok scPot (fun vs H Q E h => ?_) (fun cdv A outer s H vs Q E hr h => ?_)
  · obtain ⟨a, ns, k, rfl, _⟩ := h
    rfl
  · obtain ⟨a, ns, k, rfl, hS, k0, k1, q⟩ := h
    refine ⟨_, pss_cons (ps_set (i := 2) scPot.nd rfl (.inl rfl) pe_int)
      (pss_cons (ps_if (pt_cmpR op_lt (pv 1) (pe_callB call_len_seq (by rfl) B.len PySem.boot_len (pa_cons (pv 0) pa_nil)) (nomark _))
        (pss_one (ps_set (i := 2) scPot.nd rfl (.inl rfl) (pe_callB call_abs (by rfl) B2.abs (by decide +kernel) (pa_cons (pe_ix ix_list (pv 0) (pv 1) (fun _ _ => rfl)) pa_nil)))) pss_nil)
      (pss_one (ps_ret (pe_lst (pa_cons (pe_callB (call_max2 rfl) (by rfl) B2.max (by decide +kernel) (pa_cons pe_int (pa_cons (pe_op op_sub (pv 2) (pe_op op_pow pe_int pe_int)) pa_nil)))
        (pa_cons (pe_op op_add (pe_op op_mod (pe_op op_pow (pe_op op_add (pe_op op_add (pe_op op_mod (pv 2) pe_int) (pe_op op_mul pe_int (pv 1))) pe_int) pe_int) pe_int) pe_int) pa_nil)))))), ?_⟩
    have fin : ∀ c : Int, 0 ≤ c → ∃ v, ([some (.ref a), some (.int k), some (.int c)] : List (Option V))[2]? = some (some v) ∧ v = .int c := fun c _ => ⟨_, rfl, rfl⟩
    have three : ∀ c : Int, 0 ≤ c → 0 ≤ c % 2147483549 + 101 * k + 1 ∧ (c % 2147483549 + 101 * k + 1).natAbs < 2 ^ 64 := fun c h0 => by
      have a1 : 0 ≤ c % 2147483549 := Int.emod_nonneg _ (by decide)
      have a2 : c % 2147483549 < 2147483549 := Int.emod_lt_of_pos _ (by decide)
      omega
    refine ⟨_, rfl, .ref a, rfl, a, _, rfl, .inl hS, _, _, rfl, rfl, _, rfl, ite2 (fun e => ?_) (fun e => ?_)⟩
    · have e1 : k < (ns.map V.int).length := of_decide_eq_true e
      rw [List.length_map] at e1
      obtain ⟨n, rfl⟩ := Int.eq_ofNat_of_zero_le k0
      have hn : n < ns.length := by omega
      have g : (ns.map V.int)[n]? = some (.int ns[n]) := by
        rw [List.getElem?_map, List.getElem?_eq_getElem hn]
        rfl
      refine ⟨.ref a, rfl, .int n, rfl, a, _, _, _, rfl, rfl, hS, atI_nat g, _, rfl, ?_⟩
      have c0 : 0 ≤ (if ns[n] < 0 then -ns[n] else ns[n]) := by split <;> omega
      generalize (if ns[n] < 0 then -ns[n] else ns[n]) = c at c0
      obtain ⟨t1, t2⟩ := three c c0
      refine ⟨.int c, rfl, _, _, rfl, rfl, ⟨by decide, by decide, by decide⟩, _, _, rfl, rfl, _, _, rfl, .int c, rfl, _, _, rfl, rfl, (show (0 : Int) < 2147483549 by decide), .int n, rfl, _, _, rfl, rfl, .inl ⟨by decide, by decide⟩, _, _, rfl, rfl, _, _, rfl, rfl, _, _, rfl, rfl, ⟨by decide, by decide, t2⟩, _, _, rfl, rfl, (show (0 : Int) < 2147483543 by decide), _, _, rfl, rfl, by show 2 ≤ sizeLine; decide, fun p np => ?_⟩
      refine q p _ np ⟨_, _, upd_same, ?_, ?_, ?_⟩
      · split <;> omega
      · have := Int.emod_nonneg ((c % 2147483549 + 101 * n + 1) ^ (2 : Int).toNat) (show (2147483543 : Int) ≠ 0 by decide)
        omega
      · have := Int.emod_lt_of_pos ((c % 2147483549 + 101 * n + 1) ^ (2 : Int).toNat) (show (0 : Int) < 2147483543 by decide)
        omega
    · obtain ⟨t1, t2⟩ := three 0 (Int.le_refl _)
      refine ⟨.int 0, rfl, _, _, rfl, rfl, ⟨by decide, by decide, by decide⟩, _, _, rfl, rfl, _, _, rfl, .int 0, rfl, _, _, rfl, rfl, (show (0 : Int) < 2147483549 by decide), .int k, rfl, _, _, rfl, rfl, .inl ⟨by decide, by decide⟩, _, _, rfl, rfl, _, _, rfl, rfl, _, _, rfl, rfl, ⟨by decide, by decide, t2⟩, _, _, rfl, rfl, (show (0 : Int) < 2147483543 by decide), _, _, rfl, rfl, by show 2 ≤ sizeLine; decide, fun p np => ?_⟩
      refine q p _ np ⟨_, _, upd_same, ?_, ?_, ?_⟩
      · split <;> omega
      · have := Int.emod_nonneg (((0 : Int) % 2147483549 + 101 * k + 1) ^ (2 : Int).toNat) (show (2147483543 : Int) ≠ 0 by decide)
        omega
      · have := Int.emod_lt_of_pos (((0 : Int) % 2147483549 + 101 * k + 1) ^ (2 : Int).toNat) (show (0 : Int) < 2147483543 by decide)
        omega
/-! ### _law_take -/
abbrev sTake : Stmt := topS 51
theorem scTake : FnScope ["_law_pot_here", "_law_many", "_law_digit"] ["_law_pot_here", "_law_many"] (defScope sTake) := ⟨rfl, rfl, rfl, by decide +kernel, rfl, by decide +kernel, by decide +kernel⟩
def spTake : Sp := fun vs H Q _ => ∃ (p : Addr) (m : Int), vs = [.ref p, .int m] ∧ Pot H p ∧ LitM m ∧ ∀ d H', 0 ≤ d → d < m → Pot H' p → But p H H' → Q (.int d) H'
theorem ok_take {f : Addr} {fd : FuncData} {k : Nat} (F : Fun K "_law_take" "_law_take" sTake f fd) (B2 : Blt2 mg) :
    FnOk P w K mg base CX0 (k + 1) f fd ["_law_pot_here", "_law_many"] spTake := by
  refine F.ok scTake (fun vs H Q E h => ?_) (fun cdv A outer s H vs Q E hr h => ?_)
  · obtain ⟨a, m, rfl, _⟩ := h
    rfl
  · obtain ⟨p, m, rfl, ⟨x, y, hp, x0, y0, y1⟩, ⟨m0, m1⟩, q⟩ := h
    refine ⟨_, pss_cons (ps_if (pt_cmpR op_gt (pe_ix ix_list (pv 0) pe_int (fun _ _ => rfl)) pe_int (nomark _))
        (pss_cons (ps_asg (pe_callB call_divmodW (by rfl) B2.divmod (by decide +kernel) (pa_cons (pe_ix ix_list (pv 0) pe_int (fun _ _ => rfl)) (pa_cons (pv 1) pa_nil)))
            (pg_tup rfl (pgs_cons (pg_sub (pv 0) pe_int set_list) (pgs_cons (pg_name (i := 2) scTake.nd rfl (.inl rfl)) pgs_nil))))
          (pss_one (ps_ret (pv 2)))) pss_nil)
      (pss_cons (ps_asg (pe_op op_mod (pe_op op_add (pe_op op_mul (pe_ix ix_list (pv 0) pe_int (fun _ _ => rfl)) pe_int) pe_int) pe_int) (pg_sub (pv 0) pe_int set_list))
      (pss_one (ps_ret (pe_op op_mod (pe_op op_fdiv (pe_op op_mod (pe_op op_mul (pe_ix ix_list (pv 0) pe_int (fun _ _ => rfl)) (pe_ix ix_list (pv 0) pe_int (fun _ _ => rfl))) pe_int) pe_int) (pv 1))))), ?_⟩
    have sq : SqL K H p [.int x, .int y] := .inl (.inl hp)
    refine ⟨.ref p, rfl, p, _, 0, .int x, rfl, rfl, sq, rfl, _, _, rfl, rfl, _, rfl, ite2 (fun e => ?_) (fun e => ?_)⟩
    · have e1 : 0 < x := of_decide_eq_true e
      refine ⟨.ref p, rfl, p, _, 0, .int x, rfl, rfl, sq, rfl, .int m, rfl, x, m, rfl, ⟨m0, PyProof.noPylong_of_log2 m1⟩, fun T hT => ?_⟩
      refine ⟨T, _, rfl, .inl (.inl upd_same), rfl, _, _, rfl, .ref p, rfl, p, _, 0, 0, rfl, rfl, same_upd hT _ _ hp, rfl, _, _, rfl, rfl, ?_⟩
      refine ⟨_, rfl, q _ _ (Int.emod_nonneg _ (by omega)) (Int.emod_lt_of_pos _ m0) ⟨x / m, y, upd_same, Int.ediv_nonneg x0 (by omega), y0, y1⟩ ?_⟩
      exact (But.new hT).trans But.at
    · have c0 : 0 ≤ (y * 48271 + 10007) % 2147483587 := Int.emod_nonneg _ (by decide)
      have c1 : (y * 48271 + 10007) % 2147483587 < 2147483587 := Int.emod_lt_of_pos _ (by decide)
      refine ⟨.ref p, rfl, p, _, 1, .int y, rfl, rfl, sq, rfl, _, _, rfl, rfl, .inl ⟨by omega, by omega⟩, _, _, rfl, rfl, _, _, rfl, rfl, (show (0 : Int) < 2147483587 by decide), .ref p, rfl, p, _, 1, 1, rfl, rfl, hp, rfl, ?_⟩
      have sq2 : SqL K (upd H p (.lst ([V.int x, V.int y].set 1 (.int ((y * 48271 + 10007) % 2147483587))))) p [.int x, .int ((y * 48271 + 10007) % 2147483587)] := .inl (.inl upd_same)
      refine ⟨.ref p, rfl, p, _, 1, _, rfl, rfl, sq2, rfl, .ref p, rfl, p, _, 1, _, rfl, rfl, sq2, rfl, _, _, rfl, rfl, .inl ⟨by omega, by omega⟩, _, _, rfl, rfl, (show (0 : Int) < 2147483563 by decide), _, _, rfl, rfl, ⟨by decide, by decide⟩, .int m, rfl, _, _, rfl, rfl, m0, ?_⟩
      exact q _ _ (Int.emod_nonneg _ (by omega)) (Int.emod_lt_of_pos _ m0) ⟨x, _, upd_same, x0, c0, by omega⟩ But.at
/-- what the callers of _law_take have -/
structure HasTake (P : Program) (w : World) (K : PySem.W.Frag) (mg : Str → Option Value) (base : Heap) (f : Addr) (fd : FuncData) : Prop where
  ok : FnOk P w K mg base CX0 1 f fd ["_law_pot_here", "_law_many"] spTake
  g : mg "_law_take" = some (.ref f)
  kp : PySem.W.keepIn K (.ref f) = true
  b : Binds K fd ["_law_pot_here", "_law_many"] []
/-! ### _law_among -/
abbrev sAmong : Stmt := topS 54
theorem scAmong : FnScope ["_law_pot_here", "_law_some"] ["_law_pot_here", "_law_some"] (defScope sAmong) := ⟨rfl, rfl, rfl, by decide +kernel, rfl, by decide +kernel, by decide +kernel⟩
def spAmong : Sp := fun vs H Q _ => ∃ p v, vs = [.ref p, v] ∧ Pot H p ∧
  ((∃ z, v = .str z ∧ 0 < z.length ∧ z.length ≤ 1000 ∧ ∀ c H', c ∈ z.cps.toList → Pot H' p → But p H H' → Q (.str ⟨#[c]⟩) H') ∨
   (∃ a xs, v = .ref a ∧ a ≠ p ∧ H a = some (.lst xs) ∧ 0 < xs.length ∧ xs.length ≤ 1000 ∧ ∀ x H', x ∈ xs → Pot H' p → But p H H' → Q x H'))
theorem ok_among {f fT : Addr} {fd fdT : FuncData} (F : Fun K "_law_among" "_law_among" sAmong f fd) (B : Blt mg) (T : HasTake P w K mg base fT fdT) :
    FnOk P w K mg base CX0 2 f fd ["_law_pot_here", "_law_some"] spAmong := by
  refine F.ok scAmong (fun vs H Q E h => ?_) (fun cdv A outer s H vs Q E hr h => ?_)
  · obtain ⟨a, m, rfl, _⟩ := h
    rfl
  · obtain ⟨p, v, rfl, hp, h⟩ := h
    refine ⟨_, pss_one (ps_ret (pe_ix ix_seq (pv 1) (pe_call T.ok hr (by rfl) T.g T.kp T.b .nil pass0 (pa_cons (pv 0) (pa_cons (pe_callB call_len (by rfl) B.len PySem.boot_len (pa_cons (pv 1) pa_nil)) pa_nil))) (fun _ _ => rfl))), ?_⟩
    rcases h with ⟨z, rfl, z0, z1, q⟩ | ⟨a, xs, rfl, ne, ha, x0, x1, q⟩
    · have zl := small_line z1
      refine ⟨.str z, rfl, .ref p, rfl, .str z, rfl, .str z, z.length, rfl, ⟨zl, rfl⟩, p, z.length, rfl, hp, litM _ (by omega) (by omega), fun d H' d0 d1 hp' hb => ?_⟩
      have el : z.cps.toList.length = z.length := rfl
      obtain ⟨c, e1, e2⟩ := pick (xs := z.cps.toList) d0 (by rw [el]; exact d1)
      exact .inr (.inr ⟨z, d, c, rfl, rfl, zl, e1, q c H' e2 hp' hb⟩)
    · refine ⟨.ref a, rfl, .ref p, rfl, .ref a, rfl, .ref a, xs.length, rfl, .inl ⟨xs, .inl (.inl ha), rfl⟩, p, xs.length, rfl, hp, litM _ (by omega) (by omega), fun d H' d0 d1 hp' hb => ?_⟩
      obtain ⟨c, e1, e2⟩ := pick (xs := xs) d0 d1
      exact .inl ⟨a, xs, d, c, rfl, rfl, .inl (.inl (hb _ _ ne ha)), e1, q c H' e2 hp' hb⟩
structure HasAmong (P : Program) (w : World) (K : PySem.W.Frag) (mg : Str → Option Value) (base : Heap) (f : Addr) (fd : FuncData) : Prop where
  ok : FnOk P w K mg base CX0 2 f fd ["_law_pot_here", "_law_some"] spAmong
  g : mg "_law_among" = some (.ref f)
  kp : PySem.W.keepIn K (.ref f) = true
  b : Binds K fd ["_law_pot_here", "_law_some"] []
end
end Rc

namespace Rc
open PySem PySem.Spec PyProof.Rows L2
/-! ### what no list and no dict touches -/
def Fix : HO → Prop
  | .lst _ | .dK _ | .dT _ | .set _ _ => False
  | _ => True
/-- all but lists and dicts as it was -/
def Kp (H H' : Hp) : Prop := ∀ b o, H b = some o → Fix o → H' b = some o
theorem Kp.refl (H : Hp) : Kp H H := fun _ _ e _ => e
theorem Kp.trans {H H1 H2 : Hp} (a : Kp H H1) (b : Kp H1 H2) : Kp H H2 := fun c o e f => b c o (a c o e f) f
theorem Same.kp {H H' : Hp} (s : Same H H') : Kp H H' := fun b o e _ => s b o e
theorem But.kp {p : Addr} {H H' : Hp} {xs : List V} (s : But p H H') (h : H p = some (.lst xs)) : Kp H H' := fun b o e f => s b o (fun z => by
  rw [z, h] at e
  cases e
  exact f) e
/-- all tuples as they were -/
def TupO : HO → Prop
  | .tup _ | .frz _ _ => True
  | _ => False
def KT (H H' : Hp) : Prop := ∀ b o, H b = some o → TupO o → H' b = some o
theorem Kp.kt {H H' : Hp} (k : Kp H H') : KT H H' := fun b o e t => k b o e (by cases o <;> first | exact t.elim | exact trivial)
theorem kt_same {H H' : Hp} (s : Same H H') : KT H H' := fun b o e _ => s b o e
theorem KT.trans {H H1 H2 : Hp} (a : KT H H1) (b : KT H1 H2) : KT H H2 := fun c o e f => b c o (a c o e f) f
theorem kt_upd {H : Hp} {x : Addr} {o o' : HO} (h : H x = some o) (n : ¬ TupO o) : KT H (upd H x o') := fun b u e t => by
  have nb : b ≠ x := fun z => by
    rw [z, h] at e
    cases e
    exact n t
  rw [upd_ne nb]
  exact e
mutual
/-- no list, no dict in it -/
def tupD : PyData → Bool
  | .list _ | .dict _ => false
  | .tuple ds => tupDs ds
  | .none | .bool _ | .int _ | .str _ => true
def tupDs : List PyData → Bool
  | [] => true
  | d :: ds => tupD d && tupDs ds
end
mutual
theorem Dt.keepT {K : PySem.W.Frag} {H H' : Hp} (e : KT H H') : ∀ {v : V} (d : PyData), tupD d = true → Dt K H v d → Dt K H' v d
  | _, .none, _, h => by cases h; exact .non
  | _, .bool _, _, h => by cases h; exact .bl _
  | _, .int _, _, h => by cases h; exact .int _
  | _, .str _, _, h => by cases h; exact .str _
  | _, .list ds, t, h => by simp [tupD] at t
  | _, .dict ps, t, h => by simp [tupD] at t
  | _, .tuple ds, t, h => by
    cases h with
    | tup q a =>
      refine .tup ?_ (DtAll.keepT e ds (by simpa [tupD] using t) a)
      rcases q with (q | ⟨o, q⟩) | q
      · exact .inl (.inl (e _ _ q trivial))
      · exact .inl (.inr ⟨o, e _ _ q trivial⟩)
      · exact .inr q
theorem DtAll.keepT {K : PySem.W.Frag} {H H' : Hp} (e : KT H H') : ∀ {vs : List V} (ds : List PyData), tupDs ds = true → DtAll K H vs ds → DtAll K H' vs ds
  | _, [], _, h => by cases h; exact .nil
  | _, d :: ds, t, h => by
    cases h with
    | cons a b =>
      have t' : tupD d = true ∧ tupDs ds = true := by simpa [tupDs] using t
      exact .cons (Dt.keepT e d t'.1 a) (DtAll.keepT e ds t'.2 b)
end
theorem Dt.keep {K : PySem.W.Frag} {H H' : Hp} (e : Kp H H') {v : V} (d : PyData) (t : tupD d = true) (h : Dt K H v d) : Dt K H' v d := Dt.keepT e.kt d t h
theorem DtAll.keep {K : PySem.W.Frag} {H H' : Hp} (e : Kp H H') {vs : List V} (ds : List PyData) (t : tupDs ds = true) (h : DtAll K H vs ds) : DtAll K H' vs ds := DtAll.keepT e.kt ds t h
theorem tupDs_map {α : Type} {f : α → PyData} (h : ∀ x, tupD (f x) = true) : ∀ l : List α, tupDs (l.map f) = true
  | [] => rfl
  | x :: r => by
    rw [List.map_cons]
    simp only [tupDs, h x, tupDs_map h r, Bool.and_self]
theorem DtAll.drop {K : PySem.W.Frag} {H : Hp} : ∀ {vs : List V} {ds : List PyData} (n : Nat), DtAll K H vs ds → DtAll K H (vs.drop n) (ds.drop n)
  | _, _, 0, h => h
  | _, _, _ + 1, .nil => .nil
  | _, _, n + 1, .cons _ t => DtAll.drop n t
theorem DtAll.take {K : PySem.W.Frag} {H : Hp} : ∀ {vs : List V} {ds : List PyData} (n : Nat), DtAll K H vs ds → DtAll K H (vs.take n) (ds.take n)
  | _, _, 0, h => .nil
  | _, _, _ + 1, .nil => .nil
  | _, _, n + 1, .cons a t => .cons a (DtAll.take n t)
theorem DtAll.get {K : PySem.W.Frag} {H : Hp} : ∀ {vs : List V} {ds : List PyData} {n : Nat} {d : PyData}, DtAll K H vs ds → ds[n]? = some d → ∃ v, vs[n]? = some v ∧ Dt K H v d
  | _, _, _, _, .nil, e => by simp at e
  | _, _, 0, _, .cons a _, e => by
    simp at e
    subst e
    exact ⟨_, rfl, a⟩
  | _, _, n + 1, _, .cons _ t, e => by
    obtain ⟨v, h1, h2⟩ := DtAll.get (n := n) t (by simpa using e)
    exact ⟨v, by simpa using h1, h2⟩
theorem DtAll.rep {K : PySem.W.Frag} {H : Hp} {v : V} {d : PyData} (h : Dt K H v d) : ∀ n : Nat, DtAll K H (List.replicate n v) (List.replicate n d)
  | 0 => .nil
  | n + 1 => .cons h (DtAll.rep h n)
theorem DtAll.strs {K : PySem.W.Frag} {H : Hp} : ∀ zs : List Str, DtAll K H (zs.map V.str) (zs.map PyData.str)
  | [] => .nil
  | z :: r => .cons (.str z) (DtAll.strs r)
theorem DtAll.ints {K : PySem.W.Frag} {H : Hp} : ∀ zs : List Int, DtAll K H (zs.map V.int) (zs.map PyData.int)
  | [] => .nil
  | z :: r => .cons (.int z) (DtAll.ints r)
theorem DtAll.strs_eq {K : PySem.W.Frag} {H : Hp} : ∀ {vs : List V} {zs : List Str}, DtAll K H vs (zs.map PyData.str) → vs = zs.map V.str
  | _, [], h => by cases h; rfl
  | _, z :: r, h => by
    cases h with
    | cons a t =>
      cases a
      rw [DtAll.strs_eq t]
      rfl
theorem DtAll.ints_eq {K : PySem.W.Frag} {H : Hp} : ∀ {vs : List V} {zs : List Int}, DtAll K H vs (zs.map PyData.int) → vs = zs.map V.int
  | _, [], h => by cases h; rfl
  | _, z :: r, h => by
    cases h with
    | cons a t =>
      cases a
      rw [DtAll.ints_eq t]
      rfl
/-! ### rules by data -/
theorem Dt.tup_inv {K : PySem.W.Frag} {H : Hp} {v : V} {ds : List PyData} (h : Dt K H v (.tuple ds)) : ∃ a xs, v = .ref a ∧ SqT K H a xs ∧ DtAll K H xs ds := by
  cases h with
  | tup q a => exact ⟨_, _, rfl, q, a⟩
theorem Dt.lst_inv {K : PySem.W.Frag} {H : Hp} {v : V} {ds : List PyData} (h : Dt K H v (.list ds)) : ∃ a xs, v = .ref a ∧ SqL K H a xs ∧ DtAll K H xs ds := by
  cases h with
  | lst q a => exact ⟨_, _, rfl, q, a⟩
section
variable {X : Cx}
def rCatD (K : PySem.W.Frag) : R2 := fun x y H Q => ∃ ds es, Dt K H x (.tuple ds) ∧ Dt K H y (.tuple es) ∧ ds.length + es.length ≤ 1000 ∧ ∀ v H', Same H H' → Dt K H' v (.tuple (ds ++ es)) → Q v H'
theorem op_catD : OpR X (binaryOp .Add) (rCatD X.K) := by
  intro pins s σ H x y v u Q I rx ry h
  obtain ⟨ds, es, h1, h2, hz, q⟩ := h
  obtain ⟨a, xs, rfl, qa, da⟩ := h1.tup_inv
  obtain ⟨b, ys, rfl, qb, db⟩ := h2.tup_inv
  refine op_catA pins s σ H _ _ v u Q I rx ry ⟨a, b, xs, ys, rfl, rfl, qa, qb, small_line (by rw [da.len, db.len]; exact hz), fun e => ?_, fun _ e => ?_, fun _ _ p hp => ?_⟩
  · subst e
    cases da
    exact q _ H (Same.refl _) h2
  · subst e
    cases db
    rw [List.append_nil] at q
    exact q _ H (Same.refl _) h1
  · exact q _ _ (same_upd hp) (.tup (.inl (.inl upd_same)) ((DtAll.same (same_upd hp) _ da).append (DtAll.same (same_upd hp) _ db)))
/-- t[n], n from 0 on -/
def rIxD (K : PySem.W.Frag) : R2 := fun x y H Q => ∃ ds n d, Dt K H x (.tuple ds) ∧ y = .int (n : Nat) ∧ ds[n]? = some d ∧ ∀ v, Dt K H v d → Q v H
theorem ix_tupD : IxR X (rIxD X.K) := by
  intro value slice pins s σ H x y v u Q I rx ry h hs
  obtain ⟨ds, n, d, h1, rfl, e, q⟩ := h
  obtain ⟨a, xs, rfl, qa, da⟩ := h1.tup_inv
  obtain ⟨z, e1, e2⟩ := da.get e
  exact ix_tup value slice pins s σ H _ _ v u Q I rx ry ⟨a, xs, n, z, rfl, rfl, qa, atI_nat e1, q z e2⟩ hs
/-- t[:n], t[n:] -/
def rSlD (K : PySem.W.Frag) : V → Option Int → Option Int → Hp → VK → Prop := fun x lo hi H Q => ∃ ds, Dt K H x (.tuple ds) ∧
  ((∃ n : Nat, lo = none ∧ hi = some (n : Int) ∧ ∀ v H', Same H H' → Dt K H' v (.tuple (ds.take n)) → Q v H') ∨ (∃ n : Nat, lo = some (n : Int) ∧ hi = none ∧ ∀ v H', Same H H' → Dt K H' v (.tuple (ds.drop n)) → Q v H'))
theorem cut_take (xs : List V) (n : Nat) : cutV xs none (some (n : Int)) = xs.take n := by
  unfold cutV
  rw [HT.sIx_nat, HT.sIx_none]
  rw [List.drop_zero, Nat.sub_zero]
  by_cases h : n ≤ xs.length
  · rw [Nat.min_eq_left h]
  · rw [Nat.min_eq_right (by omega), List.take_length, List.take_of_length_le (by omega)]
theorem cut_drop (xs : List V) (n : Nat) : cutV xs (some (n : Int)) none = xs.drop n := by
  unfold cutV
  rw [HT.sIx_nat, HT.sIx_none]
  by_cases h : n ≤ xs.length
  · rw [Nat.min_eq_left h]
    exact List.take_of_length_le (by rw [List.length_drop]; omega)
  · rw [Nat.min_eq_right (by omega), List.drop_length, List.drop_of_length_le (by omega), List.take_nil]
theorem sl_tupD : SlR X (rSlD X.K) := by
  intro pins s σ H x v vl vu lo hi sl Q I rx hs pl pu h
  obtain ⟨ds, h1, h⟩ := h
  obtain ⟨a, xs, rfl, qa, da⟩ := h1.tup_inv
  rcases h with ⟨n, rfl, rfl, q⟩ | ⟨n, rfl, rfl, q⟩
  · refine sl_tupA pins s σ H _ v vl vu _ _ sl Q I rx hs pl pu ⟨a, xs, rfl, qa, fun e => ?_, fun _ p hp => ?_⟩
    · have e2 := e.2
      rw [HT.sIx_nat] at e2
      refine q _ H (Same.refl _) ?_
      rw [List.take_of_length_le (by rw [← da.len]; omega)]
      exact h1
    · rw [cut_take]
      exact q _ _ (same_upd hp) (.tup (.inl (.inl upd_same)) (DtAll.same (same_upd hp) _ (da.take n)))
  · refine sl_tupA pins s σ H _ v vl vu _ _ sl Q I rx hs pl pu ⟨a, xs, rfl, qa, fun e => ?_, fun _ p hp => ?_⟩
    · have e1 := e.1
      rw [HT.sIx_nat] at e1
      refine q _ H (Same.refl _) ?_
      rcases Nat.min_eq_zero_iff.mp e1 with z | z
      · rw [z]
        exact h1
      · have : ds = [] := List.eq_nil_of_length_eq_zero (by rw [← da.len]; exact z)
        subst this
        rw [List.drop_nil]
        exact h1
    · rw [cut_drop]
      exact q _ _ (same_upd hp) (.tup (.inl (.inl upd_same)) (DtAll.same (same_upd hp) _ (da.drop n)))
/-- list(t), tuple(l) of tuples and lists of data: a new list; a tuple -/
def rListD (K : PySem.W.Frag) : List V → Hp → VK → Prop := fun vs H Q => ∃ v ds, vs = [v] ∧ (Dt K H v (.tuple ds) ∨ Dt K H v (.list ds)) ∧ ∀ l xs, H l = none → DtAll K H xs ds → Q (.ref l) (upd H l (.lst xs))
theorem call_listD : CallR X (.type "list") (rListD X.K) := by
  intro pins s σ H xs us Q I r h
  obtain ⟨v, ds, rfl, h1, q⟩ := h
  rcases h1 with h1 | h1
  · obtain ⟨a, ys, rfl, qa, da⟩ := h1.tup_inv
    exact call_list_of pins s σ H _ us Q I r ⟨a, ys, rfl, .inr qa, fun l hl => q l ys hl da⟩
  · obtain ⟨a, ys, rfl, qa, da⟩ := h1.lst_inv
    exact call_list_of pins s σ H _ us Q I r ⟨a, ys, rfl, .inl qa, fun l hl => q l ys hl da⟩
def rTupD (K : PySem.W.Frag) : List V → Hp → VK → Prop := fun vs H Q => ∃ v ds, vs = [v] ∧ Dt K H v (.list ds) ∧ ∀ t H', Same H H' → Dt K H' t (.tuple ds) → Q t H'
theorem call_tupD : CallR X (.type "tuple") (rTupD X.K) := by
  intro pins s σ H xs us Q I r h
  obtain ⟨v, ds, rfl, h1, q⟩ := h
  obtain ⟨a, ys, rfl, qa, da⟩ := h1.lst_inv
  exact call_tuple_of pins s σ H _ us Q I r ⟨a, ys, rfl, .inl ⟨qa, fun l hl => q _ _ (same_upd hl) (.tup (.inl (.inl upd_same)) (DtAll.same (same_upd hl) _ da))⟩⟩
end
open AutoSeq1 (wpAny_loadPart') in
theorem tuple_mul1 (l : Addr) (items : Array Value) (n : Nat) (dd : Option Addr) (sl : Array (Option Value)) (u : Tok) :
    Meets (Builtin.«tuple.__mul__» ⟨[.ref l, .int 1 u], []⟩) (fun _ R s => s.heap.get? l = some { cls := .type "tuple", dict := dd, data := .seq items n, slots := sl } ∧ R (.ok (.ret (Value.ref l))) s) :=
  .of_wp fun prog w A R s h => by
    obtain ⟨hp, g, d, tk, os⟩ := s
    obtain ⟨hl, h⟩ := h
    have f1 := AutoSeq1.idx_int
    wp_walk using wpAny_loadPart' hl
    exact ⟨_, rfl, h⟩
section
variable {X : Cx}
/-- (d,) * k, k from 1 on -/
def rRepD (K : PySem.W.Frag) : R2 := fun x y H Q => ∃ (d : PyData) (k : Nat), Dt K H x (.tuple [d]) ∧ y = .int (k : Nat) ∧ 1 ≤ k ∧ k ≤ 1000 ∧ ∀ v H', Same H H' → Dt K H' v (.tuple (List.replicate k d)) → Q v H'
theorem rep_one {v : V} : ∀ k : Nat, (List.replicate k [v]).flatten = List.replicate k v
  | 0 => rfl
  | k + 1 => by
    rw [List.replicate_succ, List.flatten_cons, rep_one k]
    rfl
theorem op_repD : OpR X (binaryOp .Mult) (rRepD X.K) := by
  intro pins s σ H x y v u Q I rx ry h
  obtain ⟨d, k, h1, rfl, k1, k2, q⟩ := h
  obtain ⟨l, xs, rfl, qa, da⟩ := h1.tup_inv
  by_cases hk : k = 1
  · subst hk
    cases rx
    obtain ⟨t, rfl⟩ := ry
    obtain ⟨its, r, ⟨⟨cls, dd, data, sl⟩, ho, hc, n, hd⟩, hs⟩ := I.tuple qa
    simp only at hc hd
    subst hc hd
    refine wpAny_binaryOp_repeat_ref (T := "tuple") (U := "int") (by decide) ⟨_, ho, rfl⟩ (fun s' => typeIs_int s' _ t) noFill_tuple_mul F.fills_int_mul F.slot_int_rmul repeat_tuple F.slot_int_index.lookup
      (call_meets F.slot_int_rmul (typeIs_int s _ t) F.entry_int_rmul (F.args_int_rmul_2 _ _) (int_rmul_tuple _ t l its.toArray n dd sl)
        ⟨ho, rfl, ⟨_, ho, rfl⟩, call_meets F.slot_tuple_mul ⟨_, ho, rfl⟩ F.entry_tuple_mul (F.args_tuple_mul_2 _ _) (tuple_mul1 l its.toArray n dd sl t) ⟨ho, ?_⟩⟩)
    exact ⟨.ref l, H, I, rfl, q _ H (Same.refl _) h1⟩
  · cases da with
    | cons a b =>
      cases b
      refine op_repT pins s σ H _ _ v u Q I rx ry ⟨l, k, _, rfl, rfl, qa, by simp, by omega, by omega, by simp, fun p hp => ?_⟩
      rw [rep_one]
      exact q _ _ (same_upd hp) (.tup (.inl (.inl upd_same)) (DtAll.rep (Dt.same (same_upd hp) _ a) k))
end
/-! ### a book's data -/
structure Bk where
  names : List Str
  gifts : List Int
  stacks : List (List (Str × Int))
  drops : List Int
def noteD (n : Str × Int) : PyData := .tuple [.str n.1, .int n.2]
def notesD (l : List (Str × Int)) : List PyData := l.map noteD
def stackD (l : List (Str × Int)) : PyData := .tuple (notesD l)
theorem tup_note (n : Str × Int) : tupD (noteD n) = true := by simp [noteD, tupD, tupDs]
theorem tup_notes (l : List (Str × Int)) : tupDs (notesD l) = true := tupDs_map tup_note l
theorem tup_stack (l : List (Str × Int)) : tupD (stackD l) = true := by
  unfold stackD
  simpa [tupD] using tup_notes l
theorem tup_stacks (l : List (List (Str × Int))) : tupD (.tuple (l.map stackD)) = true := by simpa [tupD] using tupDs_map tup_stack l
theorem tup_strs (l : List Str) : tupD (.tuple (l.map PyData.str)) = true := by simpa [tupD] using tupDs_map (f := PyData.str) (fun _ => by simp [tupD]) l
theorem tup_ints (l : List Int) : tupD (.tuple (l.map PyData.int)) = true := by simpa [tupD] using tupDs_map (f := PyData.int) (fun _ => by simp [tupD]) l
def bf (a b c d : V) : List (Str × V) := [("names", a), ("gifts", b), ("stacks", c), ("drops", d)]
theorem lk_hit {f : Str} {v : V} {r : List (Str × V)} : List.lookup f ((f, v) :: r) = some v := by simp [List.lookup]
theorem lk_miss {f g : Str} {v : V} {r : List (Str × V)} (h : (f == g) = false) : List.lookup f ((g, v) :: r) = List.lookup f r := by simp [List.lookup, h]
theorem bf_names {a b c d : V} : (bf a b c d).lookup ("names" : Str) = some a := lk_hit
theorem bf_gifts {a b c d : V} : (bf a b c d).lookup ("gifts" : Str) = some b := (lk_miss (by decide +kernel)).trans lk_hit
theorem bf_stacks {a b c d : V} : (bf a b c d).lookup ("stacks" : Str) = some c := (lk_miss (by decide +kernel)).trans ((lk_miss (by decide +kernel)).trans lk_hit)
theorem bf_drops {a b c d : V} : (bf a b c d).lookup ("drops" : Str) = some d := (lk_miss (by decide +kernel)).trans ((lk_miss (by decide +kernel)).trans ((lk_miss (by decide +kernel)).trans lk_hit))
/-- a name that is no field -/
def NoF (m : Str) : Prop := (m == "names") = false ∧ (m == "gifts") = false ∧ (m == "stacks") = false ∧ (m == "drops") = false
theorem bf_no {a b c d : V} {m : Str} (h : NoF m) : (bf a b c d).lookup m = none := (lk_miss h.1).trans ((lk_miss h.2.1).trans ((lk_miss h.2.2.1).trans ((lk_miss h.2.2.2).trans rfl)))
structure BookAt (K : PySem.W.Frag) (C : Addr) (H : Hp) (b : Addr) (M : Bk) : Prop where
  ex : ∃ dx tn on vg vs vd, H b = some (.ins C dx (bf (.ref tn) vg vs vd)) ∧ H tn = some (.frz on (.tup (M.names.map V.str))) ∧ on.dict = none ∧ Dt K H vg (.tuple (M.gifts.map .int)) ∧ Dt K H vs (.tuple (M.stacks.map stackD)) ∧ Dt K H vd (.tuple (M.drops.map .int))
theorem BookAt.keep {K : PySem.W.Frag} {C : Addr} {H H' : Hp} {b : Addr} {M : Bk} (h : BookAt K C H b M) (k : Kp H H') : BookAt K C H' b M := by
  obtain ⟨dx, tn, on, vg, vs, vd, e, h1, hn, h2, h3, h4⟩ := h.ex
  exact ⟨dx, tn, on, vg, vs, vd, k _ _ e trivial, k _ _ h1 trivial, hn, Dt.keep k _ (tup_ints _) h2, Dt.keep k _ (tup_stacks _) h3, Dt.keep k _ (tup_ints _) h4⟩
/-- a book that may be -/
structure Bk.Ok (M : Bk) : Prop where
  n0 : 1 ≤ M.names.length
  n1 : M.names.length ≤ 12
  nd : M.names.Nodup
  nm : ∀ z ∈ M.names, nameT z = true
  lg : M.gifts.length = M.names.length
  ls : M.stacks.length = M.names.length
  ld : M.drops.length = M.names.length
  many : (M.stacks.map List.length).sum ≤ 60
end Rc

namespace Rc
open PySem PySem.Spec PyProof.Rows L2
section
variable {X : Cx}
/-- tuple(l), the tuple known to the object -/
def rTupF (K : PySem.W.Frag) : List V → Hp → VK → Prop := fun vs H Q => ∃ p ys, vs = [.ref p] ∧ SqL K H p ys ∧ ∀ l o, H l = none → o.dict = none → Q (.ref l) (upd H l (.frz o (.tup ys)))
theorem call_tupF : CallR X (.type "tuple") (rTupF X.K) := by
  intro pins s σ H xs us Q I r h
  obtain ⟨p, ys, rfl, hq, q⟩ := h
  obtain ⟨u, rfl, rx⟩ := vals1 r
  cases rx
  obtain ⟨its, r', pl, hz⟩ := I.list hq
  have hlen := r'.length
  refine call_tuple_list pl.isList (fun h' kp => ?_) (by simp only [List.size_toArray] <;> omega)
  have I1 : L2.Inv X pins σ H { s with heap := h' } := I.kept (t' := s.toks) kp
  have e0 : (h'.push { cls := .type "tuple", data := .seq its.toArray }).get? h'.objs.size = some { cls := .type "tuple", data := .seq its.toArray } := Heap.get?_push_size _ rfl
  have I2 := I1.laid (a := h'.objs.size) (o := .frz { cls := .type "tuple", data := .seq its.toArray } (.tup ys)) (t' := s.toks) (h' := h'.push { cls := .type "tuple", data := .seq its.toArray })
    (fun b o e => Heap.get?_push_of_some _ e) (Nat.le_refl _) ⟨e0, hz, its, r', IsTup.new _ _⟩
  exact ⟨.ref h'.objs.size, _, I2, rfl, q _ _ (I1.hok.fresh (Nat.le_refl _)) rfl⟩
/-- t.m(e), t such a tuple -/
def tBMF (r : V → List V → Hp → VK → Prop) (to : TE) (t : TA) : TE := fun σ H Q => to σ H fun x H1 => ∃ p o xs, x = .ref p ∧ H1 p = some (.frz o (.tup xs)) ∧ o.dict = none ∧ t σ H1 fun vs H2 => r x vs H2 Q
theorem pe_bmF {o e : Expr} {es : List Expr} {to : TE} {t : TA} {name : Str} {apos cpos : Pos} {id : String} {r : V → List V → Hp → VK → Prop} (slot : Slot "tuple" name id) (hty : typeOf (.builtin id) = pure (.type "method_descriptor")) (hm : MtR X id r)
    (ho : PE X o to) (ha : PA X (e :: es) t) (hbase : attributeBase o name X.env (eval o X.env) = eval o X.env := by rfl)
    (hfew : ((backTo cpos (starEach (e :: es) X.env)).all (fun x => !x.1) && (backToKw cpos (keywordEach [] X.env)).all (fun x => x.1.isSome) &&
      decide ((e :: es).length + ([] : List Keyword).length + (if ([] : List Keyword).isEmpty then 0 else 1) < 30)) = true := by rfl)
    (hline : (apos.endLine == cpos.line) = true := by rfl) (hs : starEach (e :: es) X.env = (false, eval e X.env) :: starEach es X.env := by rfl)
    (hplain : (backTo cpos (starEach es X.env)).any (·.1) = false := by rfl) : PE X (.Call (.Attribute o name apos) (e :: es) [] cpos) (tBMF r to t) := by
  refine ⟨fun pins s σ H Q I h => wpAny_Call_method_late hbase hfew hline rfl (thn (ho.run pins s σ H _ I h) fun v s1 z => ?_)⟩
  obtain ⟨x, H1, I1, r1, p, ob, xs, rfl, hp, hd, q1⟩ := z
  cases r1
  obtain ⟨g1, _, its, rv, hT⟩ := I1.hok p _ hp
  obtain ⟨o2, g2, c2, _⟩ := hT
  rw [g1] at g2
  cases g2
  refine ⟨"tuple", id, PySem.F.plainAttrs_tuple, slot, hty, ⟨ob, g1, c2⟩, fun a e => ?_, ?_⟩
  · cases e
    exact ⟨ob, g1, hd⟩
  have hA := ha.run cpos pins s1 σ H1 _ I1 q1
  rw [hs] at hA ⊢
  refine Calls.callWith_builtin (by show (false || (backTo cpos (starEach es X.env)).any (·.1)) = false; rw [hplain] <;> rfl) (Calls.evalArgs_plain (thn hA fun us s2 z => ?_))
  obtain ⟨vs, H2, I2, r2, q2⟩ := z
  exact hm pins s2 σ H2 (.ref p) vs _ us Q I2 rfl r2 q2
/-- one of two readings of what is walked -/
theorem PI.or {tg e : Expr} {t1 t2 : TI} (h1 : PI X tg e t1) (h2 : PI X tg e t2) : PI X tg e (fun σ H R => t1 σ H R ∨ t2 σ H R) :=
  ⟨fun pins s σ H R I q => q.elim (h1.run pins s σ H R I) (h2.run pins s σ H R I)⟩
end
theorem inV_strs (z : Str) (zs : List Str) : inV (.str z) (zs.map V.str) = decide (z ∈ zs) := by
  unfold inV
  rw [List.any_map]
  induction zs with
  | nil => rfl
  | cons y r ih =>
    rw [List.any_cons, ih]
    show ((y == z) || decide (z ∈ r)) = decide (z ∈ y :: r)
    by_cases h : y = z
    · subst h
      simp
    · have h' : ¬ z = y := fun e => h e.symm
      rw [beq_eq_false_iff_ne.mpr h]
      simp [h']
end Rc

namespace Rc
open PySem PySem.Spec PyProof.Rows L2
/-- a def that is called -/
structure Has (P : Program) (w : World) (K : PySem.W.Frag) (mg : Str → Option Value) (base : Heap) (k : Nat) (nm : Str) (ps : List Str) (sp : Sp) (f : Addr) (fd : FuncData) : Prop where
  ok : FnOk P w K mg base CX0 k f fd ps sp
  g : mg nm = some (.ref f)
  kp : PySem.W.keepIn K (.ref f) = true
  b : Binds K fd ps []
/-- a method that is called -/
structure HasM (P : Program) (w : World) (K : PySem.W.Frag) (mg : Str → Option Value) (base : Heap) (C : Addr) (k : Nat) (nm : Str) (ps : List Str) (sp : Sp) (f : Addr) (fd : FuncData) : Prop where
  ok : FnOk P w K mg base CX0 k f fd ps sp
  m : Meth K C nm f
  b : Binds K fd ps []
structure Blt3 (mg : Str → Option Value) : Prop where
  list : mg "list" = none
  tuple : mg "tuple" = none
  enumerate : mg "enumerate" = none
  zip : mg "zip" = none
  sum : mg "sum" = none
  dict : mg "dict" = none
structure ClsF (K : PySem.W.Frag) (C : Addr) : Prop where
  cl : Cls K C
  n1 : NoAttr K C "names"
  n2 : NoAttr K C "gifts"
  n3 : NoAttr K C "stacks"
  n4 : NoAttr K C "drops"
section
variable {P : Program} {w : World} {K : PySem.W.Frag} {mg : Str → Option Value} {base : Heap}
/-! ### check_persons -/
abbrev sCheckP : Stmt := topS 22
theorem scCheckP : FnScope ["persons", "place", "name"] ["persons"] (defScope sCheckP) := ⟨rfl, rfl, rfl, by decide +kernel, rfl, by decide +kernel, by decide +kernel⟩
/-- names of which a book may be made -/
structure NamesOk (zs : List Str) : Prop where
  n0 : 1 ≤ zs.length
  n1 : zs.length ≤ 12
  nd : zs.Nodup
  nm : ∀ z ∈ zs, nameT z = true
theorem nameT_len {z : Str} (h : nameT z = true) : 1 ≤ z.length ∧ z.length ≤ 8 := by
  unfold nameT at h
  simp only [Bool.and_eq_true, decide_eq_true_eq] at h
  exact h.1
def spCheckP (K : PySem.W.Frag) : Sp := fun vs H Q _ => ∃ a zs, vs = [.ref a] ∧ H a = some (.lst (zs.map V.str)) ∧ NamesOk zs ∧ ∀ H', Same H H' → Q .non H'
theorem ok_checkP {f fN : Addr} {fd fdN : FuncData} (F : Fun K "check_persons" "check_persons" sCheckP f fd) (B : Blt mg) (B3 : Blt3 mg) (gM : ∃ t, mg "MOST_PERSONS" = some (.int 12 t))
    (N : Has P w K mg base 1 "is_name" ["thing"] (spBool K nameD) fN fdN) : FnOk P w K mg base CX0 2 f fd ["persons"] (spCheckP K) := by
  obtain ⟨tM, gM⟩ := gM
  refine F.ok scCheckP (fun vs H Q E h => ?_) (fun cdv A outer s H vs Q E hr h => ?_)
  · obtain ⟨a, zs, rfl, _⟩ := h
    rfl
  · obtain ⟨a, zs, rfl, ha, ok, q⟩ := h
    refine ⟨_, pss_cons (ps_if (PW.pt (pw_or (pt_not (pt_val (pe_callB call_isi (by rfl) B.isi (by decide +kernel) (pa_cons (pv 0) (pa_cons (pe_bltn (v := .ty "list") (by rfl) B3.list (by decide +kernel) rfl) pa_nil)))))
        (pw_or (pt_cmpR op_lt (pe_callB call_len_seq (by rfl) B.len PySem.boot_len (pa_cons (pv 0) pa_nil)) pe_int (nomark _))
        (pw_or1 (pt_cmpR op_gt (pe_callB call_len_seq (by rfl) B.len PySem.boot_len (pa_cons (pv 0) pa_nil)) (pe_glob (v := .int 12) (by rfl) gM ⟨_, rfl⟩) (nomark _)))))) pss_never pss_nil)
      (pss_one (ps_for PassesOwn.never rfl (pi_enum (by rfl) B3.enumerate (pa_cons (pv 0) pa_nil)) (pg_tup rfl (pgs_cons (pg_name (i := 1) scCheckP.nd rfl (.inl rfl)) (pgs_cons (pg_name (i := 2) scCheckP.nd rfl (.inl rfl)) pgs_nil)))
        (pss_cons (ps_if (pt_not (pt_val (pe_call N.ok hr (by rfl) N.g N.kp N.b .nil pass0 (pa_cons (pv 2) pa_nil)))) pss_never pss_nil)
        (pss_one (ps_if (pt_cmpR op_in_seq (pv 2) (pe_slice sl_list (pv 0) po_none (po_some (pv 1))) (by rfl)) pss_never pss_nil))))), ?_⟩
    have sq : SqL K H a (zs.map V.str) := .inl (.inl ha)
    refine ⟨.ref a, rfl, _, .ty "list", _, _, true, rfl, .ty "list", .base (.lst ha), kit_ty (by decide +kernel), _, rfl, iteF ?_⟩
    refine ⟨.ref a, rfl, a, _, rfl, .inl sq, _, _, rfl, rfl, _, rfl, ?_⟩
    have l0 := ok.n0
    have l1 := ok.n1
    rw [show decide (((zs.map V.str).length : Int) < 1) = false from decide_eq_false (by rw [List.length_map]; omega)]
    refine iteF ⟨.ref a, rfl, a, _, rfl, .inl sq, _, _, rfl, rfl, _, rfl, ?_⟩
    rw [show decide ((12 : Int) < ((zs.map V.str).length : Int)) = false from decide_eq_false (by rw [List.length_map]; omega)]
    refine iteF ⟨.ref a, rfl, a, _, rfl, sq, ?_⟩
    refine for_it (walk_enum (xs := zs.map V.str)) (fun i σ H' => ∃ y1 y2, σ = [some (.ref a), y1, y2] ∧ Same H H') ⟨_, _, rfl, Same.refl _⟩ (fun i σ H' _ hP => ?_) (fun i x σ H1' H1 hi hP hY => ?_) (fun σ H' hP => ?_)
    · obtain ⟨_, _, _, s⟩ := hP
      exact s.seq sq
    · obtain ⟨T, x1, x2, rfl, nT, rfl, e1, e2⟩ := hY
      obtain ⟨y1, y2, rfl, s1⟩ := hP
      cases e1
      have s2 := s1.trans (same_upd (o := .tup [V.int (i : Nat), x2]) nT)
      rw [List.length_map] at hi
      have ex : x2 = .str zs[i] := by
        have e2' : (zs.map V.str)[i]? = some x2 := e2
        rw [List.getElem?_map, List.getElem?_eq_getElem hi] at e2'
        exact (Option.some.inj e2').symm
      subst ex
      have hm : zs[i] ∈ zs := List.getElem_mem hi
      have nm := ok.nm _ hm
      refine ⟨T, _, rfl, .inl (.inl upd_same), rfl, _, _, rfl, _, _, rfl, rfl, ?_⟩
      refine ⟨.str zs[i], rfl, .str zs[i], .str zs[i], rfl, .str _, fun z e => by cases e; have := (nameT_len nm).2; omega, fun H2 sm => ⟨_, rfl, ?_⟩⟩
      have e3 : nameD (.str zs[i]) = true := nm
      rw [e3]
      refine iteF ⟨.str zs[i], rfl, .ref a, rfl, .int (i : Nat), rfl, _, rfl, a, _, rfl, sm.seq (s2.seq sq), fun p np => ?_⟩
      rw [cut_take, ← List.map_take]
      refine ⟨p, _, rfl, .inl (.inl (.inl upd_same)), rfl, flat_strs _, _, rfl, ?_⟩
      have no : ¬ zs[i] ∈ zs.take i := fun z => by
        obtain ⟨j, hj, e⟩ := List.getElem_of_mem z
        rw [List.length_take] at hj
        rw [List.getElem_take] at e
        have := (List.getElem_inj ok.nd).mp e
        omega
      show if inV (.str zs[i]) ((zs.take i).map V.str) = true then _ else _
      rw [inV_strs, decide_eq_false no]
      exact iteF ⟨_, _, rfl, s2.trans (sm.trans (same_upd np))⟩
    · obtain ⟨_, _, rfl, s⟩ := hP
      exact q _ s
/-! ### check_amount -/
abbrev sCheckA : Stmt := topS 23
theorem scCheckA : FnScope ["amount"] ["amount"] (defScope sCheckA) := ⟨rfl, rfl, rfl, by decide +kernel, rfl, by decide +kernel, by decide +kernel⟩
def spCheckA (K : PySem.W.Frag) : Sp := fun vs H Q _ => ∃ n : Int, vs = [.int n] ∧ 1 ≤ n ∧ ∀ H', Same H H' → Q .non H'
theorem ok_checkA {f fN : Addr} {fd fdN : FuncData} (F : Fun K "check_amount" "check_amount" sCheckA f fd)
    (N : Has P w K mg base 2 "is_amount" ["thing"] (spBool K amountD) fN fdN) : FnOk P w K mg base CX0 3 f fd ["amount"] (spCheckA K) := by
  refine F.ok scCheckA (fun vs H Q E h => ?_) (fun cdv A outer s H vs Q E hr h => ?_)
  · obtain ⟨a, rfl, _⟩ := h
    rfl
  · obtain ⟨n, rfl, n1, q⟩ := h
    refine ⟨_, pss_one (ps_if (pt_not (pt_val (pe_call N.ok hr (by rfl) N.g N.kp N.b .nil pass0 (pa_cons (pv 0) pa_nil)))) pss_never pss_nil), ?_⟩
    refine ⟨_, rfl, _, .int n, rfl, .int n, (fun z e => by cases e), fun H' sm => ⟨_, rfl, ?_⟩⟩
    have e : amountD (.int n) = true := decide_eq_true n1
    rw [e]
    exact iteF (q _ sm)
/-! ### with_changed -/
abbrev sChg : Stmt := topS 25
theorem scChg : FnScope ["row", "place", "thing"] ["row", "place", "thing"] (defScope sChg) := ⟨rfl, rfl, rfl, by decide +kernel, rfl, by decide +kernel, by decide +kernel⟩
def spChg (K : PySem.W.Frag) : Sp := fun vs H Q _ => ∃ v ds n t d, vs = [v, .int (n : Nat), t] ∧ Dt K H v (.tuple ds) ∧ Dt K H t d ∧ n < ds.length ∧ ds.length ≤ 100 ∧ ∀ v' H', Same H H' → Dt K H' v' (.tuple (ds.set n d)) → Q v' H'
theorem set_parts {α : Type} (ds : List α) (n : Nat) (d : α) (h : n < ds.length) : ds.take n ++ [d] ++ ds.drop (n + 1) = ds.set n d := by
  rw [List.set_eq_take_append_cons_drop, if_pos h, List.append_assoc]
  rfl
theorem ok_chg {f : Addr} {fd : FuncData} (F : Fun K "with_changed" "with_changed" sChg f fd) : FnOk P w K mg base CX0 1 f fd ["row", "place", "thing"] (spChg K) := by
  refine F.ok scChg (fun vs H Q E h => ?_) (fun cdv A outer s H vs Q E hr h => ?_)
  · obtain ⟨_, _, _, _, _, rfl, _⟩ := h
    rfl
  · obtain ⟨v, ds, n, t, d, rfl, hv, ht, hn, hz, q⟩ := h
    refine ⟨_, pss_one (ps_ret (pe_op op_catD (pe_op op_catD (pe_slice sl_tupD (pv 0) po_none (po_some (pv 1))) (pe_tup (pa_cons (pv 2) pa_nil))) (pe_slice sl_tupD (pv 0) (po_some (pe_op op_add (pv 1) pe_int)) po_none))), ?_⟩
    refine ⟨v, rfl, .int (n : Nat), rfl, (n : Nat), rfl, ds, hv, .inl ⟨n, rfl, rfl, fun v1 H1 s1 d1 => ?_⟩⟩
    refine ⟨t, rfl, by show 1 ≤ sizeLine; decide, fun p np => ⟨ds.take n, [d], Dt.same (same_upd np) _ d1, .tup (.inl (.inl upd_same)) (.cons (Dt.same (s1.trans (same_upd np)) _ ht) .nil), ?_, fun v2 H2 s2 d2 => ?_⟩⟩
    · rw [List.length_take, List.length_singleton]
      omega
    have s02 := s1.trans ((same_upd np).trans s2)
    refine ⟨v, rfl, .int (n : Nat), rfl, _, _, rfl, rfl, _, rfl, ds, Dt.same s02 _ hv, .inr ⟨n + 1, rfl, rfl, fun v3 H3 s3 d3 => ⟨_, _, Dt.same s3 _ d2, d3, ?_, fun v4 H4 s4 d4 => ?_⟩⟩⟩
    · rw [List.length_append, List.length_take, List.length_drop, List.length_singleton]
      omega
    · rw [set_parts ds n d hn] at d4
      exact q _ _ (s02.trans (s3.trans s4)) d4
end
end Rc

namespace Rc
open PySem PySem.Spec PyProof.Rows L2
/-- a list (k) or a tuple -/
def Sq (K : PySem.W.Frag) (k : Bool) (H : Hp) (a : Addr) (xs : List V) : Prop := if k = true then SqL K H a xs else SqT K H a xs
theorem same_seqT {K : PySem.W.Frag} {H H' : Hp} {a : Addr} {xs : List V} (e : Same H H') (h : SqT K H a xs) : SqT K H' a xs := by
  rcases h with (h | ⟨o, h⟩) | h
  · exact .inl (.inl (e _ _ h))
  · exact .inl (.inr ⟨o, e _ _ h⟩)
  · exact .inr h
theorem Sq.same {K : PySem.W.Frag} {k : Bool} {H H' : Hp} {a : Addr} {xs : List V} (h : Sq K k H a xs) (e : Same H H') : Sq K k H' a xs := by
  cases k with
  | true => exact e.seq h
  | false => exact same_seqT e h
/-- a list or a tuple that stands in slot i -/
def iSeqV (K : PySem.W.Frag) (i : Nat) : TI := fun σ H R => ∃ a xs k, σ[i]? = some (some (.ref a)) ∧ Sq K k H a xs ∧ ∀ J G, Walk J xs.length G (YAt xs) → (∀ H', Sq K k H' a xs → G H') → R J H
theorem pi_seqV {X : Cx} {tg : Expr} (i : Nat) {x : Str} {pos : Pos} (h : PE X (.Name x pos) (tVar i)) : PI X tg (.Name x pos) (iSeqV X.K i) := by
  refine ⟨fun pins s σ H R I q => ?_⟩
  obtain ⟨a, xs, k, e, hq, q⟩ := q
  cases k with
  | true => exact (pi_list h).run pins s σ H R I ⟨_, e, a, rfl, ⟨xs, hq⟩, q _ _ walk_list fun H' z => z⟩
  | false => exact (pi_tup h).run pins s σ H R I ⟨_, e, a, rfl, ⟨xs, hq⟩, q _ _ walk_tup fun H' z => z⟩
/-! ### notes that fall from above -/
def partOf (a f : Int) : Int := if f < a then f else a
def goneN : List (Str × Int) → Int → List (Str × Int)
  | [], _ => []
  | (t, a) :: r, f => (if 0 < partOf a f then [(t, partOf a f)] else []) ++ goneN r (f - partOf a f)
def leftN : List (Str × Int) → Int → List (Str × Int)
  | [], _ => []
  | (t, a) :: r, f => (if partOf a f < a then [(t, a - partOf a f)] else []) ++ leftN r (f - partOf a f)
theorem goneN_nil (f : Int) : goneN [] f = [] := rfl
theorem leftN_nil (f : Int) : leftN [] f = [] := rfl
theorem goneN_cons (t : Str) (a f : Int) (r : List (Str × Int)) : goneN ((t, a) :: r) f = (if 0 < partOf a f then [(t, partOf a f)] else []) ++ goneN r (f - partOf a f) := rfl
theorem leftN_cons (t : Str) (a f : Int) (r : List (Str × Int)) : leftN ((t, a) :: r) f = (if partOf a f < a then [(t, a - partOf a f)] else []) ++ leftN r (f - partOf a f) := rfl
theorem goneN_len : ∀ (l : List (Str × Int)) (f : Int), (goneN l f).length ≤ l.length
  | [], _ => Nat.le_refl _
  | (t, a) :: r, f => by
    have := goneN_len r (f - partOf a f)
    unfold goneN
    rw [List.length_append, List.length_cons]
    split <;> simp <;> omega
theorem leftN_len : ∀ (l : List (Str × Int)) (f : Int), (leftN l f).length ≤ l.length
  | [], _ => Nat.le_refl _
  | (t, a) :: r, f => by
    have := leftN_len r (f - partOf a f)
    unfold leftN
    rw [List.length_append, List.length_cons]
    split <;> simp <;> omega
theorem DtAll.notes_get {K : PySem.W.Frag} {H : Hp} {xs : List V} {l : List (Str × Int)} {i : Nat} {x : V} (h : DtAll K H xs (notesD l)) (e : xs[i]? = some x) : ∃ (hi : i < l.length), Dt K H x (noteD l[i]) := by
  have hl := h.len
  have hi : i < xs.length := (List.getElem?_eq_some_iff.mp e).1
  have hi' : i < l.length := by
    unfold notesD at hl
    rw [List.length_map] at hl
    omega
  refine ⟨hi', ?_⟩
  have g : (notesD l)[i]? = some (noteD l[i]) := by
    unfold notesD
    rw [List.getElem?_map, List.getElem?_eq_getElem hi']
    rfl
  obtain ⟨v, e1, e2⟩ := h.get g
  rw [e] at e1
  cases e1
  exact e2
theorem note_inv {K : PySem.W.Frag} {H : Hp} {v : V} {n : Str × Int} (h : Dt K H v (noteD n)) : ∃ a, v = .ref a ∧ SqT K H a [.str n.1, .int n.2] := by
  obtain ⟨a, xs, rfl, q, d⟩ := h.tup_inv
  cases d with
  | cons d1 d2 =>
    cases d1
    cases d2 with
    | cons d3 d4 =>
      cases d3
      cases d4
      exact ⟨a, rfl, q⟩
section
variable {P : Program} {w : World} {K : PySem.W.Frag} {mg : Str → Option Value} {base : Heap}
abbrev sSplit : Stmt := topS 24
abbrev nSplit : List Str := ["notes", "fallen", "gone", "left", "to", "amount", "part"]
theorem scSplit : FnScope nSplit ["notes", "fallen"] (defScope sSplit) := ⟨rfl, rfl, rfl, by decide +kernel, rfl, by decide +kernel, by decide +kernel⟩
def spSplit (K : PySem.W.Frag) : Sp := fun vs H Q _ => ∃ a xs kd l f, vs = [.ref a, .int f] ∧ Sq K kd H a xs ∧ DtAll K H xs (notesD l) ∧ l.length ≤ 100 ∧
  ∀ t g m gx mx H', Same H H' → H' t = some (.tup [.ref g, .ref m]) → H g = none → H m = none → g ≠ m → H' g = some (.lst gx) → H' m = some (.lst mx) → DtAll K H' gx (notesD (goneN l f)) → DtAll K H' mx (notesD (leftN l f)) → Q (.ref t) H'
theorem ok_split {f : Addr} {fd : FuncData} (F : Fun K "split_notes" "split_notes" sSplit f fd) (B2 : Blt2 mg) : FnOk P w K mg base CX0 1 f fd ["notes", "fallen"] (spSplit K) := by
  refine F.ok scSplit (fun vs H Q E h => ?_) (fun cdv A outer s H vs Q E hr h => ?_)
  · obtain ⟨_, _, _, _, _, rfl, _⟩ := h
    rfl
  · obtain ⟨a, xs, kd, l, f, rfl, hq, hd, hz, q⟩ := h
    refine ⟨_, pss_cons (ps_set (i := 2) scSplit.nd rfl (.inl rfl) (pe_lst pa_nil)) (pss_cons (ps_set (i := 3) scSplit.nd rfl (.inl rfl) (pe_lst pa_nil))
      (pss_cons (ps_for PassesOwn.never rfl (pi_seqV 0 (pv 0)) (pg_tup rfl (pgs_cons (pg_name (i := 4) scSplit.nd rfl (.inl rfl)) (pgs_cons (pg_name (i := 5) scSplit.nd rfl (.inl rfl)) pgs_nil)))
        (pss_cons (ps_set (i := 6) scSplit.nd rfl (.inl rfl) (pe_callB (call_min2 rfl) (by rfl) B2.min (by decide +kernel) (pa_cons (pv 5) (pa_cons (pv 1) pa_nil))))
        (pss_cons (ps_aug (i := 1) scSplit.nd rfl (.inl rfl) (pv 6) ip_sub)
        (C8.pss_cut (ps_if (pt_cmpR op_gt (pv 6) pe_int (nomark _)) (pss_one (ps_expr (pe_bm PySem.F.plainAttrs_list PySem.F.slot_list_append PySem.F.type_list_append mt_append (pv 2) (pa_cons (pe_tup (pa_cons (pv 4) (pa_cons (pv 6) pa_nil))) pa_nil)))) pss_nil)
        (pss_one (ps_if (pt_cmpR op_lt (pv 6) (pv 5) (nomark _)) (pss_one (ps_expr (pe_bm PySem.F.plainAttrs_list PySem.F.slot_list_append PySem.F.type_list_append mt_append (pv 3) (pa_cons (pe_tup (pa_cons (pv 4) (pa_cons (pe_op op_sub (pv 5) (pv 6)) pa_nil))) pa_nil)))) pss_nil))))))
      (pss_one (ps_ret (pe_tup (pa_cons (pv 2) (pa_cons (pv 3) pa_nil))))))), ?_⟩
    refine ⟨Nat.zero_le _, fun g ng => ⟨Nat.zero_le _, fun m nm => ?_⟩⟩
    have gm : g ≠ m := fun z => by
      rw [← z, upd_same] at nm
      cases nm
    have nmH : H m = none := by
      rw [upd_ne gm.symm] at nm
      exact nm
    have s0 : Same H (upd (upd H g (.lst [])) m (.lst [])) := (same_upd ng).trans (same_upd nm)
    refine ⟨a, xs, kd, rfl, hq.same s0, fun J G wk hG => ?_⟩
    have fresh : ∀ b o, H b = some o → b ≠ g ∧ b ≠ m := fun b o e => ⟨ne_of_none e ng, ne_of_none e nmH⟩
    refine for_it wk (fun i σ H' => ∃ y4 y5 y6 fi gx mx Gs Ms, σ = [some (.ref a), some (.int fi), some (.ref g), some (.ref m), y4, y5, y6] ∧ Same H H' ∧ H' g = some (.lst gx) ∧ H' m = some (.lst mx) ∧
        DtAll K H' gx (notesD Gs) ∧ DtAll K H' mx (notesD Ms) ∧ Gs.length ≤ i ∧ Ms.length ≤ i ∧ Gs ++ goneN (l.drop i) fi = goneN l f ∧ Ms ++ leftN (l.drop i) fi = leftN l f)
      ⟨_, _, _, f, [], [], [], [], rfl, s0, by rw [upd_ne gm, upd_same], upd_same, .nil, .nil, Nat.le_refl _, Nat.le_refl _, rfl, rfl⟩ (fun i σ H' _ hP => ?_) (fun i x σ H1' H1 hi hP hY => ?_) (fun σ H' hP => ?_)
    · obtain ⟨_, _, _, _, _, _, _, _, _, s1, _⟩ := hP
      exact hG _ (hq.same s1)
    · obtain ⟨rfl, ex⟩ := hY
      obtain ⟨y4, y5, y6, fi, gx, mx, Gs, Ms, rfl, s1, hg, hm, dg, dm, lg, lm, eg, em⟩ := hP
      obtain ⟨hil, dn⟩ := (DtAll.same s1 _ hd).notes_get ex
      obtain ⟨ta, rfl, qt⟩ := note_inv dn
      have ed : l.drop i = l[i] :: l.drop (i + 1) := List.drop_eq_getElem_cons hil
      rw [ed] at eg em
      obtain ⟨t, am, el⟩ : ∃ t am, l[i] = (t, am) := ⟨_, _, rfl⟩
      rw [el] at eg em qt
      rw [goneN_cons] at eg
      rw [leftN_cons] at em
      have dgl := dg.len
      have dml := dm.len
      unfold notesD at dgl dml
      rw [List.length_map] at dgl dml
      refine ⟨ta, _, rfl, qt, rfl, _, _, rfl, _, _, rfl, rfl, ?_⟩
      refine ⟨.int am, rfl, .int fi, rfl, _, _, rfl, ?_⟩
      have ep : (if fi < am then fi else am) = partOf am fi := rfl
      rw [ep]
      generalize partOf am fi = pt at eg em
      refine ⟨_, rfl, _, rfl, _, _, rfl, rfl, ?_⟩
      refine ⟨fun σ2 H2 => ∃ gx2 Gs2, σ2 = [some (V.ref a), some (V.int (fi - pt)), some (V.ref g), some (V.ref m), some (V.str t), some (V.int am), some (V.int pt)] ∧ Same H H2 ∧ H2 g = some (.lst gx2) ∧ H2 m = some (.lst mx) ∧ DtAll K H2 gx2 (notesD Gs2) ∧ DtAll K H2 mx (notesD Ms) ∧
        Gs2.length ≤ i + 1 ∧ Gs2 ++ goneN (l.drop (i + 1)) (fi - pt) = goneN l f, ?_, ?_⟩
      · refine ⟨.int pt, rfl, _, _, rfl, rfl, _, rfl, ite2 (fun e => ?_) (fun e => ?_)⟩
        · have e' := of_decide_eq_true e
          rw [if_pos e'] at eg
          refine ⟨.ref g, rfl, .inl ⟨rfl, _, .inl (.inl hg)⟩, .str t, rfl, .int pt, rfl, by show 2 ≤ sizeLine; decide, fun p np => ⟨g, gx, _, rfl, rfl, ?_, small1000 (by omega), ?_⟩⟩
          · rw [upd_ne (ne_of_none hg np)]
            exact hg
          have pm : p ≠ m := (ne_of_none hm np).symm
          have pg : p ≠ g := (ne_of_none hg np).symm
          have kp : Kp H1 (upd (upd H1 p (.tup [.str t, .int pt])) g (.lst (gx ++ [.ref p]))) := fun b o e fx => by
            have nb : b ≠ g := fun z => by
              rw [z, hg] at e
              cases e
              exact fx
            rw [upd_ne nb, upd_ne (ne_of_none e np)]
            exact e
          refine ⟨gx ++ [.ref p], Gs ++ [(t, pt)], rfl, fun b o e => ?_, upd_same, ?_, ?_, DtAll.keep kp _ (tup_notes _) dm, ?_, ?_⟩
          · rw [upd_ne (fresh b o e).1, upd_ne (ne_of_none (s1 b o e) np)]
            exact s1 b o e
          · rw [upd_ne gm.symm, upd_ne pm.symm]
            exact hm
          · unfold notesD
            rw [List.map_append]
            refine (DtAll.keep kp _ (tup_notes _) dg).append (.cons (.tup (.inl (.inl ?_)) (.cons (.str _) (.cons (.int _) .nil))) .nil)
            rw [upd_ne pg, upd_same]
          · rw [List.length_append]
            exact Nat.add_le_add_right lg 1
          · rw [List.append_assoc]
            exact eg
        · have e' : ¬ 0 < pt := fun c => e (decide_eq_true c)
          rw [if_neg e'] at eg
          exact ⟨gx, Gs, rfl, s1, hg, hm, dg, dm, Nat.le_succ_of_le lg, eg⟩
      · rintro σ2 H2 ⟨gx2, Gs2, rfl, s2, hg2, hm2, dg2, dm2, lg2, eg2⟩
        refine ⟨.int pt, rfl, .int am, rfl, _, _, rfl, rfl, _, rfl, ite2 (fun e => ?_) (fun e => ?_)⟩
        · have e' := of_decide_eq_true e
          rw [if_pos e'] at em
          refine ⟨.ref m, rfl, .inl ⟨rfl, _, .inl (.inl hm2)⟩, .str t, rfl, .int am, rfl, .int pt, rfl, _, _, rfl, rfl, by show 2 ≤ sizeLine; decide, fun p np => ⟨m, mx, _, rfl, rfl, ?_, small1000 (by omega), ?_⟩⟩
          · rw [upd_ne (ne_of_none hm2 np)]
            exact hm2
          have pm : p ≠ m := (ne_of_none hm2 np).symm
          have pg : p ≠ g := (ne_of_none hg2 np).symm
          have kp : Kp H2 (upd (upd H2 p (.tup [.str t, .int (am - pt)])) m (.lst (mx ++ [.ref p]))) := fun b o e fx => by
            have nb : b ≠ m := fun z => by
              rw [z, hm2] at e
              cases e
              exact fx
            rw [upd_ne nb, upd_ne (ne_of_none e np)]
            exact e
          refine ⟨_, _, _, fi - pt, gx2, mx ++ [.ref p], Gs2, Ms ++ [(t, am - pt)], rfl, fun b o e => ?_, ?_, upd_same, DtAll.keep kp _ (tup_notes _) dg2, ?_, lg2, ?_, eg2, ?_⟩
          · rw [upd_ne (fresh b o e).2, upd_ne (ne_of_none (s2 b o e) np)]
            exact s2 b o e
          · rw [upd_ne gm, upd_ne pg.symm]
            exact hg2
          · unfold notesD
            rw [List.map_append]
            refine (DtAll.keep kp _ (tup_notes _) dm2).append (.cons (.tup (.inl (.inl ?_)) (.cons (.str _) (.cons (.int _) .nil))) .nil)
            rw [upd_ne pm, upd_same]
          · rw [List.length_append]
            exact Nat.add_le_add_right lm 1
          · rw [List.append_assoc]
            exact em
        · have e' : ¬ pt < am := fun c => e (decide_eq_true c)
          rw [if_neg e'] at em
          exact ⟨_, _, _, fi - pt, gx2, mx, Gs2, Ms, rfl, s2, hg2, hm2, dg2, dm2, lg2, Nat.le_succ_of_le lm, eg2, em⟩
    · obtain ⟨y4, y5, y6, fi, gx, mx, Gs, Ms, rfl, s1, hg, hm, dg, dm, lg, lm, eg, em⟩ := hP
      have hx : l.drop xs.length = [] := List.drop_of_length_le (by
        have := hd.len
        unfold notesD at this
        rw [List.length_map] at this
        omega)
      rw [hx] at eg em
      rw [goneN_nil, List.append_nil] at eg
      rw [leftN_nil, List.append_nil] at em
      subst eg em
      refine ⟨.ref g, rfl, .ref m, rfl, by show 2 ≤ sizeLine; decide, fun t nt => ?_⟩
      have st := same_upd (o := .tup [.ref g, .ref m]) nt
      exact q t g m gx mx _ (s1.trans st) upd_same ng nmH gm (st _ _ hg) (st _ _ hm) (DtAll.same st _ dg) (DtAll.same st _ dm)
end
end Rc

namespace Rc
open PySem PySem.Spec PyProof.Rows L2
abbrev inBook (i : Nat) : Stmt := inClass (topS 26) i
theorem Bk.Ok.names {M : Bk} (h : M.Ok) : NamesOk M.names := ⟨h.n0, h.n1, h.nd, h.nm⟩
def newBk (zs : List Str) : Bk := ⟨zs, List.replicate zs.length 0, List.replicate zs.length [], List.replicate zs.length 0⟩
theorem putF_miss {f g : Str} {v x : V} {r : List (Str × V)} (h : ¬ g = f) : putF f v ((g, x) :: r) = (g, x) :: putF f v r := by
  show (if g = f then (g, v) :: r else (g, x) :: putF f v r) = _
  rw [if_neg h]
theorem putF_hit {f : Str} {v x : V} {r : List (Str × V)} : putF f v ((f, x) :: r) = (f, v) :: r := by
  show (if f = f then (f, v) :: r else (f, x) :: putF f v r) = _
  rw [if_pos rfl]
theorem put1 (a : V) : putF "names" a [] = ([("names", a)] : List (Str × V)) := rfl
theorem put2 (a b : V) : putF "gifts" b [("names", a)] = ([("names", a), ("gifts", b)] : List (Str × V)) := by
  rw [putF_miss (by decide +kernel)]
  rfl
theorem put3 (a b c : V) : putF "stacks" c [("names", a), ("gifts", b)] = ([("names", a), ("gifts", b), ("stacks", c)] : List (Str × V)) := by
  rw [putF_miss (by decide +kernel), putF_miss (by decide +kernel)]
  rfl
theorem put4 (a b c d : V) : putF "drops" d [("names", a), ("gifts", b), ("stacks", c)] = bf a b c d := by
  rw [putF_miss (by decide +kernel), putF_miss (by decide +kernel), putF_miss (by decide +kernel)]
  rfl
theorem putG (a b c d e : V) : putF "gifts" e (bf a b c d) = bf a e c d := by
  unfold bf
  rw [putF_miss (by decide +kernel), putF_hit]
theorem putS (a b c d e : V) : putF "stacks" e (bf a b c d) = bf a b e d := by
  unfold bf
  rw [putF_miss (by decide +kernel), putF_miss (by decide +kernel), putF_hit]
theorem putD (a b c d e : V) : putF "drops" e (bf a b c d) = bf a b c e := by
  unfold bf
  rw [putF_miss (by decide +kernel), putF_miss (by decide +kernel), putF_miss (by decide +kernel), putF_hit]
theorem bf_len (a b c d : V) : (bf a b c d).length < 1000 := by
  show 4 < 1000
  decide
section
variable {P : Program} {w : World} {K : PySem.W.Frag} {mg : Str → Option Value} {base : Heap}
/-! ### __init__ -/
abbrev sInit : Stmt := inBook 0
theorem scInit : FnScope ["self", "persons"] ["self", "persons"] (defScope sInit) := ⟨rfl, rfl, rfl, by decide +kernel, rfl, by decide +kernel, by decide +kernel⟩
def spInit (K : PySem.W.Frag) (C : Addr) : Sp := fun vs H Q _ => ∃ x dx a zs, vs = [.ref x, .ref a] ∧ H x = some (.ins C dx []) ∧ H a = some (.lst (zs.map V.str)) ∧ NamesOk zs ∧ ∀ H', But x H H' → BookAt K C H' x (newBk zs) → Q .non H'
theorem ok_init {f fc C : Addr} {fd fdc : FuncData} (F : Fun K "__init__" "Book.__init__" sInit f fd) (T : ClsF K C) (B : Blt mg) (B3 : Blt3 mg)
    (CP : Has P w K mg base 2 "check_persons" ["persons"] (spCheckP K) fc fdc) : FnOk P w K mg base CX0 3 f fd ["self", "persons"] (spInit K C) := by
  refine F.ok scInit (fun vs H Q E h => ?_) (fun cdv A outer s H vs Q E hr h => ?_)
  · obtain ⟨_, _, _, _, rfl, _⟩ := h
    rfl
  · obtain ⟨x, dx, a, zs, rfl, hx, ha, ok, q⟩ := h
    refine ⟨_, pss_cons (ps_expr (pe_call CP.ok hr (by rfl) CP.g CP.kp CP.b .nil pass0 (pa_cons (pv 1) pa_nil)))
      (pss_cons (ps_fld (pv 0) (pe_callTy call_tupF (by rfl) B3.tuple (by decide +kernel) (pa_cons (pv 1) pa_nil)) rfl)
      (pss_cons (ps_fld (pv 0) (pe_op op_repD (pe_tup (pa_cons pe_int pa_nil)) (pe_callB call_len_seq (by rfl) B.len PySem.boot_len (pa_cons (pv 1) pa_nil))) rfl)
      (pss_cons (ps_fld (pv 0) (pe_op op_repD (pe_tup (pa_cons (pe_tup pa_nil) pa_nil)) (pe_callB call_len_seq (by rfl) B.len PySem.boot_len (pa_cons (pv 1) pa_nil))) rfl)
      (pss_one (ps_fld (pv 0) (pe_op op_repD (pe_tup (pa_cons pe_int pa_nil)) (pe_callB call_len_seq (by rfl) B.len PySem.boot_len (pa_cons (pv 1) pa_nil))) rfl))))), ?_⟩
    have l0 := ok.n0
    have l1 := ok.n1
    have el : (zs.map V.str).length = zs.length := List.length_map ..
    have nxa : a ≠ x := ne_of ha hx (by intro z; cases z)
    refine ⟨.ref a, rfl, a, zs, rfl, ha, ok, fun H1 s1 => ?_⟩
    -- self.names = tuple(persons)
    refine ⟨.ref a, rfl, a, _, rfl, .inl (.inl (s1 _ _ ha)), fun tn on ntn don => ?_⟩
    have s2 : Same H1 (upd H1 tn (.frz on (.tup (zs.map V.str)))) := same_upd ntn
    have ntx : x ≠ tn := ne_of_none (s1 _ _ hx) ntn
    refine ⟨.ref x, rfl, x, C, dx, _, rfl, s2 _ _ (s1 _ _ hx), T.cl, T.n1, by show 0 < 1000; decide, ?_⟩
    rw [put1]
    generalize hH3 : upd (upd H1 tn (.frz on (.tup (zs.map V.str)))) x (.ins C dx [("names", V.ref tn)]) = H3
    have b3 : But x H H3 := by
      rw [← hH3]
      exact (same_but (s1.trans s2)).trans But.at
    have x3 : H3 x = some (.ins C dx [("names", V.ref tn)]) := by
      rw [← hH3, upd_same]
    have t3 : H3 tn = some (.frz on (.tup (zs.map V.str))) := by
      rw [← hH3, upd_ne ntx.symm, upd_same]
    -- self.gifts
    refine ⟨by show 1 ≤ sizeLine; decide, fun t1 nt1 => ?_⟩
    have s4 := same_upd (o := .tup [V.int 0]) nt1
    refine ⟨.ref a, rfl, a, _, rfl, .inl (.inl (.inl (s4 _ _ (b3 _ _ nxa ha)))), .int 0, zs.length, .tup (.inl (.inl upd_same)) (.cons (.int 0) .nil), by rw [el], l0, by omega, fun vg H5 s5 dg => ?_⟩
    have s35 := s4.trans s5
    refine ⟨.ref x, rfl, x, C, dx, _, rfl, s35 _ _ x3, T.cl, T.n2, by show 1 < 1000; decide, ?_⟩
    rw [put2]
    have k6 : KT H5 (upd H5 x (.ins C dx [("names", V.ref tn), ("gifts", vg)])) := kt_upd (s35 _ _ x3) (fun z => z)
    have b6 : But x H (upd H5 x (.ins C dx [("names", V.ref tn), ("gifts", vg)])) := b3.trans ((same_but s35).trans But.at)
    have k36 : KT H3 (upd H5 x (.ins C dx [("names", V.ref tn), ("gifts", vg)])) := (kt_same s35).trans k6
    generalize hH6 : upd H5 x (.ins C dx [("names", V.ref tn), ("gifts", vg)]) = H6 at k6 b6 k36
    have x6 : H6 x = some (.ins C dx [("names", V.ref tn), ("gifts", vg)]) := by
      rw [← hH6, upd_same]
    have dg6 := Dt.keepT k6 _ (by rw [← List.map_replicate]; exact tup_ints _) dg
    -- self.stacks
    refine ⟨by show 0 ≤ sizeLine; decide, fun t0 nt0 => ⟨by show 1 ≤ sizeLine; decide, fun t2 nt2 => ?_⟩⟩
    have s7 := (same_upd (o := .tup []) nt0).trans (same_upd (o := .tup [V.ref t0]) nt2)
    refine ⟨.ref a, rfl, a, _, rfl, .inl (.inl (.inl (s7 _ _ (b6 _ _ nxa ha)))), .tuple [], zs.length, .tup (.inl (.inl upd_same)) (.cons (.tup (.inl (.inl (same_upd nt2 _ _ upd_same))) .nil) .nil), by rw [el], l0, by omega, fun vs H8 s8 ds => ?_⟩
    have s68 := s7.trans s8
    refine ⟨.ref x, rfl, x, C, dx, _, rfl, s68 _ _ x6, T.cl, T.n3, by show 2 < 1000; decide, ?_⟩
    rw [put3]
    have k9 : KT H8 (upd H8 x (.ins C dx [("names", V.ref tn), ("gifts", vg), ("stacks", vs)])) := kt_upd (s68 _ _ x6) (fun z => z)
    have b9 : But x H (upd H8 x (.ins C dx [("names", V.ref tn), ("gifts", vg), ("stacks", vs)])) := b6.trans ((same_but s68).trans But.at)
    have k69 : KT H6 (upd H8 x (.ins C dx [("names", V.ref tn), ("gifts", vg), ("stacks", vs)])) := (kt_same s68).trans k9
    generalize hH9 : upd H8 x (.ins C dx [("names", V.ref tn), ("gifts", vg), ("stacks", vs)]) = H9 at k9 b9 k69
    have x9 : H9 x = some (.ins C dx [("names", V.ref tn), ("gifts", vg), ("stacks", vs)]) := by
      rw [← hH9, upd_same]
    have ts : tupD (.tuple (List.replicate zs.length (.tuple []))) = true := by
      have := tup_stacks (List.replicate zs.length [])
      rw [List.map_replicate] at this
      exact this
    have ds9 := Dt.keepT k9 _ ts ds
    -- self.drops
    refine ⟨by show 1 ≤ sizeLine; decide, fun t3' nt3 => ?_⟩
    have s10 := same_upd (o := .tup [V.int 0]) nt3
    refine ⟨.ref a, rfl, a, _, rfl, .inl (.inl (.inl (s10 _ _ (b9 _ _ nxa ha)))), .int 0, zs.length, .tup (.inl (.inl upd_same)) (.cons (.int 0) .nil), by rw [el], l0, by omega, fun vd H11 s11 dd => ?_⟩
    have s911 := s10.trans s11
    refine ⟨.ref x, rfl, x, C, dx, _, rfl, s911 _ _ x9, T.cl, T.n4, by show 3 < 1000; decide, ?_⟩
    rw [put4]
    have k12 : KT H11 (upd H11 x (.ins C dx (bf (.ref tn) vg vs vd))) := kt_upd (s911 _ _ x9) (fun z => z)
    have k912 : KT H9 (upd H11 x (.ins C dx (bf (.ref tn) vg vs vd))) := (kt_same s911).trans k12
    refine q _ (b9.trans ((same_but s911).trans But.at)) ⟨dx, tn, on, vg, vs, vd, upd_same, (k36.trans (k69.trans k912)) _ _ t3 trivial, don, ?_, ?_, ?_⟩
    · show Dt K _ vg (.tuple ((List.replicate zs.length (0 : Int)).map .int))
      rw [List.map_replicate]
      exact Dt.keepT (k69.trans k912) _ (by rw [← List.map_replicate]; exact tup_ints _) dg6
    · show Dt K _ vs (.tuple ((List.replicate zs.length []).map stackD))
      rw [List.map_replicate]
      exact Dt.keepT k912 _ ts ds9
    · show Dt K _ vd (.tuple ((List.replicate zs.length (0 : Int)).map .int))
      rw [List.map_replicate]
      exact Dt.keepT k12 _ (by rw [← List.map_replicate]; exact tup_ints _) dd
end
end Rc

namespace Rc
open PySem PySem.Spec PyProof.Rows L2
theorem book_same {K : PySem.W.Frag} {C : Addr} {H H' : Hp} {b : Addr} {M : Bk} (h : BookAt K C H b M) (s : Same H H') : BookAt K C H' b M := h.keep fun b o e _ => s b o e
theorem NoF.mk' {m : Str} (h : ((m == "names") || (m == "gifts") || (m == "stacks") || (m == "drops")) = false) : NoF m := by
  simp only [Bool.or_eq_false_iff] at h
  exact ⟨h.1.1.1, h.1.1.2, h.1.2, h.2⟩
section
variable {P : Program} {w : World} {K : PySem.W.Frag} {mg : Str → Option Value} {base : Heap}
/-! ### with_these -/
abbrev sWith : Stmt := inBook 1
theorem scWith : FnScope ["self", "gifts", "stacks", "drops", "other"] ["self", "gifts", "stacks", "drops"] (defScope sWith) := ⟨rfl, rfl, rfl, by decide +kernel, rfl, by decide +kernel, by decide +kernel⟩
def spWith (K : PySem.W.Frag) (C : Addr) : Sp := fun vs H Q _ => ∃ b M vg vs' vd gs ss ds, vs = [.ref b, vg, vs', vd] ∧ BookAt K C H b M ∧ NamesOk M.names ∧ Dt K H vg (.tuple (List.map PyData.int gs)) ∧ Dt K H vs' (.tuple (List.map stackD ss)) ∧ Dt K H vd (.tuple (List.map PyData.int ds)) ∧
  ∀ b' H', Same H H' → H b' = none → BookAt K C H' b' ⟨M.names, gs, ss, ds⟩ → Q (.ref b') H'
theorem ok_with {f fi C : Addr} {fd fdi : FuncData} (F : Fun K "with_these" "Book.with_these" sWith f fd) (T : ClsF K C) (B3 : Blt3 mg) (M : Mk K C fi) (gC : mg "Book" = some (.ref C))
    (GI : FnOk P w K mg base CX0 3 fi fdi ["self", "persons"] (spInit K C)) (bI : Binds K fdi ["self", "persons"] []) : FnOk P w K mg base CX0 5 f fd ["self", "gifts", "stacks", "drops"] (spWith K C) := by
  refine F.ok scWith (fun vs H Q E h => ?_) (fun cdv A outer s H vs Q E hr h => ?_)
  · obtain ⟨_, _, _, _, _, _, _, _, rfl, _⟩ := h
    rfl
  · obtain ⟨b, Mb, vg, vs', vd, gs, ss, ds, rfl, hb, ok, hg, hs, hd, q⟩ := h
    refine ⟨_, pss_cons (ps_set (i := 4) scWith.nd rfl (.inl rfl) (pe_make M GI hr (by rfl) gC bI .nil pass0 (pa_cons (pe_callTy call_list_of (by rfl) B3.list (by decide +kernel) (pa_cons (pe_fld (pv 0) rfl) pa_nil)) pa_nil)))
      (pss_cons (ps_fld (pv 4) (pv 1) rfl) (pss_cons (ps_fld (pv 4) (pv 2) rfl) (pss_cons (ps_fld (pv 4) (pv 3) rfl) (pss_one (ps_ret (pv 4)))))), ?_⟩
    obtain ⟨dx, tn, on, wg, ws, wd, e, h1, hn, h2, h3, h4⟩ := hb.ex
    refine ⟨.ref b, rfl, b, C, dx, _, _, rfl, e, T.cl, T.n1, bf_names, tn, _, rfl, .inr (.inl (.inr ⟨on, h1⟩)), fun l nl => ?_⟩
    intro x dy nx ndy nxy
    have s1 := same_upd (o := .lst (Mb.names.map V.str)) nl
    generalize hH1 : upd H l (.lst (Mb.names.map V.str)) = H1 at s1 nx ndy
    have hl : H1 l = some (.lst (Mb.names.map V.str)) := by
      rw [← hH1, upd_same]
    have nlx : l ≠ x := ne_of_none hl nx
    have nld : l ≠ dy := ne_of_none hl ndy
    have s2 : Same H1 (upd (upd H1 dy (.own x)) x (.ins C dy [])) := fun c o e => by
      rw [upd_ne (ne_of_none e nx), upd_ne (ne_of_none e ndy)]
      exact e
    refine ⟨x, dy, l, Mb.names, rfl, upd_same, s2 _ _ hl, ok, fun H2 b2 bk => ⟨rfl, ?_⟩⟩
    have nxH : H x = none := s1.free nx
    have s02 : Same H H2 := fun c o e => b2 c o (ne_of_none e nxH) (s2 c o (s1 c o e))
    obtain ⟨dx2, tn2, on2, ug, us, ud, e2, k1, kn, k2, k3, k4⟩ := bk.ex
    -- other.gifts = gifts; other.stacks = stacks; other.drops = drops
    refine ⟨vg, rfl, .ref x, rfl, x, C, dx2, _, rfl, e2, T.cl, T.n2, bf_len _ _ _ _, ?_⟩
    rw [putG]
    refine ⟨vs', rfl, .ref x, rfl, x, C, dx2, _, rfl, upd_same, T.cl, T.n3, bf_len _ _ _ _, ?_⟩
    rw [putS]
    refine ⟨vd, rfl, .ref x, rfl, x, C, dx2, _, rfl, upd_same, T.cl, T.n4, bf_len _ _ _ _, ?_⟩
    rw [putD, upd_upd, upd_upd]
    have kt : KT H2 (upd H2 x (.ins C dx2 (bf (.ref tn2) vg vs' vd))) := kt_upd e2 fun z => z
    have s03 : Same H (upd H2 x (.ins C dx2 (bf (.ref tn2) vg vs' vd))) := fun c o e => by
      rw [upd_ne (ne_of_none e nxH)]
      exact s02 c o e
    exact ⟨.ref x, rfl, q x _ s03 nxH ⟨dx2, tn2, on2, vg, vs', vd, upd_same, kt _ _ k1 trivial, kn, Dt.same s03 _ hg, Dt.same s03 _ hs, Dt.same s03 _ hd⟩⟩
/-! ### has, place_of, persons -/
abbrev sHas : Stmt := inBook 4
theorem scHas : FnScope ["self", "who"] ["self", "who"] (defScope sHas) := ⟨rfl, rfl, rfl, by decide +kernel, rfl, by decide +kernel, by decide +kernel⟩
def hasD (M : Bk) : PyData → Bool
  | .str z => decide (z ∈ M.names)
  | _ => false
def spHas (K : PySem.W.Frag) (C : Addr) : Sp := fun vs H Q _ => ∃ b M v d, vs = [.ref b, v] ∧ BookAt K C H b M ∧ NamesOk M.names ∧ Dt K H v d ∧ ShortD d ∧ ∀ H', Same H H' → Q (.bl (hasD M d)) H'
theorem ok_has {f fN C : Addr} {fd fdN : FuncData} (F : Fun K "has" "Book.has" sHas f fd) (T : ClsF K C) (N : Has P w K mg base 1 "is_name" ["thing"] (spBool K nameD) fN fdN) :
    FnOk P w K mg base CX0 2 f fd ["self", "who"] (spHas K C) := by
  refine F.ok scHas (fun vs H Q E h => ?_) (fun cdv A outer s H vs Q E hr h => ?_)
  · obtain ⟨_, _, _, _, rfl, _⟩ := h
    rfl
  · obtain ⟨b, M, v, d, rfl, hb, ok, hd, sd, q⟩ := h
    refine ⟨_, pss_one (ps_ret (pe_and (pe_call N.ok hr (by rfl) N.g N.kp N.b .nil pass0 (pa_cons (pv 1) pa_nil)) (pe_one (pe_cmpR op_in_seq (pv 1) (pe_fld (pv 0) rfl) (by rfl))))), ?_⟩
    refine ⟨v, rfl, v, d, rfl, hd, sd, fun H1 s1 => ⟨_, rfl, ?_⟩⟩
    obtain ⟨dx, tn, on, wg, ws, wd, e, h1, hn, h2, h3, h4⟩ := (book_same hb s1).ex
    have q1 := q H1 s1
    cases hd with
    | str z =>
      by_cases hm : z ∈ M.names
      · have en : nameD (.str z) = true := ok.nm z hm
        rw [en]
        refine iteT ⟨.str z, rfl, .ref b, rfl, b, C, dx, _, _, rfl, e, T.cl, T.n1, bf_names, tn, _, rfl, .inr (.inl (.inr ⟨on, h1⟩)), rfl, flat_strs _, ?_⟩
        show Q (.bl (inV (.str z) (M.names.map V.str))) H1
        rw [inV_strs]
        exact q1
      · have eh : hasD M (.str z) = false := decide_eq_false hm
        rw [eh] at q1
        cases en : nameD (.str z) with
        | false => exact iteF q1
        | true =>
          refine iteT ⟨.str z, rfl, .ref b, rfl, b, C, dx, _, _, rfl, e, T.cl, T.n1, bf_names, tn, _, rfl, .inr (.inl (.inr ⟨on, h1⟩)), rfl, flat_strs _, ?_⟩
          show Q (.bl (inV (.str z) (M.names.map V.str))) H1
          rw [inV_strs, decide_eq_false hm]
          exact q1
    | _ => exact iteF q1
abbrev sPlace : Stmt := inBook 2
theorem scPlace : FnScope ["self", "who"] ["self", "who"] (defScope sPlace) := ⟨rfl, rfl, rfl, by decide +kernel, rfl, by decide +kernel, by decide +kernel⟩
/-- the j-th person is called z -/
def spPlace (K : PySem.W.Frag) (C : Addr) : Sp := fun vs H Q _ => ∃ (b : Addr) (M : Bk) (z : Str) (j : Nat), vs = [.ref b, .str z] ∧ BookAt K C H b M ∧ NamesOk M.names ∧ M.names[j]? = some z ∧ ∀ H', Same H H' → Q (.int (j : Nat)) H'
theorem name_at {zs : List Str} (ok : NamesOk zs) {j : Nat} {z : Str} (e : zs[j]? = some z) : z ∈ zs ∧ (∀ m, m < j → zs[m]? ≠ some z) ∧ z.length ≤ 1000 := by
  have hm := List.mem_of_getElem? e
  refine ⟨hm, fun m hm' e' => ?_, by have := (nameT_len (ok.nm z hm)).2; omega⟩
  obtain ⟨h1, e1⟩ := List.getElem?_eq_some_iff.mp e
  obtain ⟨h2, e2⟩ := List.getElem?_eq_some_iff.mp e'
  have := (List.getElem_inj ok.nd).mp (e1.trans e2.symm)
  omega
theorem ok_place {f fh C : Addr} {fd fdh : FuncData} (F : Fun K "place_of" "Book.place_of" sPlace f fd) (T : ClsF K C) (HS : HasM P w K mg base C 2 "has" ["self", "who"] (spHas K C) fh fdh) :
    FnOk P w K mg base CX0 3 f fd ["self", "who"] (spPlace K C) := by
  refine F.ok scPlace (fun vs H Q E h => ?_) (fun cdv A outer s H vs Q E hr h => ?_)
  · obtain ⟨_, _, _, _, rfl, _⟩ := h
    rfl
  · obtain ⟨b, M, z, j, rfl, hb, ok, ej, q⟩ := h
    obtain ⟨hm, hf, hz⟩ := name_at ok ej
    refine ⟨_, pss_cons (ps_if (pt_not (pt_val (pe_meth (pv 0) T.cl HS.m HS.ok hr HS.b .nil pass0 (pa_cons (pv 1) pa_nil)))) pss_never pss_nil)
      (pss_one (ps_ret (pe_bmF PySem.F.slot_tuple_index PySem.F.type_tuple_index mt_tup_index (pe_fld (pv 0) rfl) (pa_cons (pv 1) pa_nil)))), ?_⟩
    obtain ⟨dx, tn, on, wg, ws, wd, e, h1, hn, h2, h3, h4⟩ := hb.ex
    refine ⟨.ref b, rfl, b, dx, _, rfl, e, bf_no (NoF.mk' (by decide +kernel)), .str z, rfl, b, M, .str z, .str z, rfl, hb, ok, .str z, (fun y ey => by cases ey; exact hz), fun H1 s1 => ⟨_, rfl, ?_⟩⟩
    have eh : hasD M (.str z) = true := decide_eq_true hm
    rw [eh]
    refine iteF ⟨.ref b, rfl, b, C, dx, _, _, rfl, s1 _ _ e, T.cl, T.n1, bf_names, tn, on, _, rfl, s1 _ _ h1, hn, .str z, rfl, tn, M.names, z, j, rfl, rfl, .inl (.inr ⟨on, s1 _ _ h1⟩), ej, hf, q H1 s1⟩
abbrev sPersons : Stmt := inBook 3
theorem scPersons : FnScope ["self"] ["self"] (defScope sPersons) := ⟨rfl, rfl, rfl, by decide +kernel, rfl, by decide +kernel, by decide +kernel⟩
def spPersons (K : PySem.W.Frag) (C : Addr) : Sp := fun vs H Q _ => ∃ b M, vs = [.ref b] ∧ BookAt K C H b M ∧ ∀ l, H l = none → Q (.ref l) (upd H l (.lst (M.names.map V.str)))
theorem ok_persons {f C : Addr} {fd : FuncData} (F : Fun K "persons" "Book.persons" sPersons f fd) (T : ClsF K C) (B3 : Blt3 mg) : FnOk P w K mg base CX0 1 f fd ["self"] (spPersons K C) := by
  refine F.ok scPersons (fun vs H Q E h => ?_) (fun cdv A outer s H vs Q E hr h => ?_)
  · obtain ⟨_, _, rfl, _⟩ := h
    rfl
  · obtain ⟨b, M, rfl, hb, q⟩ := h
    refine ⟨_, pss_one (ps_ret (pe_callTy call_list_of (by rfl) B3.list (by decide +kernel) (pa_cons (pe_fld (pv 0) rfl) pa_nil))), ?_⟩
    obtain ⟨dx, tn, on, wg, ws, wd, e, h1, hn, h2, h3, h4⟩ := hb.ex
    exact ⟨.ref b, rfl, b, C, dx, _, _, rfl, e, T.cl, T.n1, bf_names, tn, _, rfl, .inr (.inl (.inr ⟨on, h1⟩)), q⟩
/-! ### given, fallen, notes, pile -/
abbrev sGiven : Stmt := inBook 5
abbrev sFallen : Stmt := inBook 6
abbrev sNotes : Stmt := inBook 7
abbrev sPile : Stmt := inBook 8
theorem scGiven : FnScope ["self", "who"] ["self", "who"] (defScope sGiven) := ⟨rfl, rfl, rfl, by decide +kernel, rfl, by decide +kernel, by decide +kernel⟩
theorem scFallen : FnScope ["self", "who"] ["self", "who"] (defScope sFallen) := ⟨rfl, rfl, rfl, by decide +kernel, rfl, by decide +kernel, by decide +kernel⟩
theorem scNotes : FnScope ["self", "who"] ["self", "who"] (defScope sNotes) := ⟨rfl, rfl, rfl, by decide +kernel, rfl, by decide +kernel, by decide +kernel⟩
theorem scPile : FnScope ["self", "who", "gone", "left"] ["self", "who"] (defScope sPile) := ⟨rfl, rfl, rfl, by decide +kernel, rfl, by decide +kernel, by decide +kernel⟩
/-- a number of the j-th person -/
def spNum (K : PySem.W.Frag) (C : Addr) (g : Bk → List Int) : Sp := fun vs H Q _ => ∃ (b : Addr) (M : Bk) (z : Str) (j : Nat) (n : Int), vs = [.ref b, .str z] ∧ BookAt K C H b M ∧ NamesOk M.names ∧ M.names[j]? = some z ∧ (g M)[j]? = some n ∧ ∀ H', Same H H' → Q (.int n) H'
/-- a new list of notes of the j-th person -/
def spRow (K : PySem.W.Frag) (C : Addr) (g : List (Str × Int) → Int → List (Str × Int)) : Sp := fun vs H Q _ => ∃ (b : Addr) (M : Bk) (z : Str) (j : Nat) (l : List (Str × Int)) (n : Int), vs = [.ref b, .str z] ∧ BookAt K C H b M ∧ NamesOk M.names ∧ M.names[j]? = some z ∧
  M.stacks[j]? = some l ∧ M.drops[j]? = some n ∧ l.length ≤ 100 ∧ ∀ r xs H', Same H H' → H r = none → H' r = some (.lst xs) → DtAll K H' xs (notesD (g l n)) → Q (.ref r) H'
theorem map_get {α β : Type} {f : α → β} {l : List α} {j : Nat} {x : α} (h : l[j]? = some x) : (l.map f)[j]? = some (f x) := by
  rw [List.getElem?_map, h]
  rfl
theorem ok_given {f fp C : Addr} {fd fdp : FuncData} (F : Fun K "given" "Book.given" sGiven f fd) (T : ClsF K C) (PL : HasM P w K mg base C 3 "place_of" ["self", "who"] (spPlace K C) fp fdp) :
    FnOk P w K mg base CX0 4 f fd ["self", "who"] (spNum K C Bk.gifts) := by
  refine F.ok scGiven (fun vs H Q E h => ?_) (fun cdv A outer s H vs Q E hr h => ?_)
  · obtain ⟨_, _, _, _, _, rfl, _⟩ := h
    rfl
  · obtain ⟨b, M, z, j, n, rfl, hb, ok, ej, en, q⟩ := h
    refine ⟨_, pss_one (ps_ret (pe_ix ix_tupD (pe_fld (pv 0) rfl) (pe_meth (pv 0) T.cl PL.m PL.ok hr PL.b .nil pass0 (pa_cons (pv 1) pa_nil)) (fun _ _ => rfl))), ?_⟩
    obtain ⟨dx, tn, on, wg, ws, wd, e, h1, hn, h2, h3, h4⟩ := hb.ex
    refine ⟨.ref b, rfl, b, C, dx, _, _, rfl, e, T.cl, T.n2, bf_gifts, .ref b, rfl, b, dx, _, rfl, e, bf_no (NoF.mk' (by decide +kernel)), .str z, rfl, b, M, z, j, rfl, hb, ok, ej, fun H1 s1 => ?_⟩
    exact ⟨_, j, .int n, Dt.same s1 _ h2, rfl, map_get en, fun v dv => by cases dv; exact q H1 s1⟩
theorem ok_fallen {f fp C : Addr} {fd fdp : FuncData} (F : Fun K "fallen" "Book.fallen" sFallen f fd) (T : ClsF K C) (PL : HasM P w K mg base C 3 "place_of" ["self", "who"] (spPlace K C) fp fdp) :
    FnOk P w K mg base CX0 4 f fd ["self", "who"] (spNum K C Bk.drops) := by
  refine F.ok scFallen (fun vs H Q E h => ?_) (fun cdv A outer s H vs Q E hr h => ?_)
  · obtain ⟨_, _, _, _, _, rfl, _⟩ := h
    rfl
  · obtain ⟨b, M, z, j, n, rfl, hb, ok, ej, en, q⟩ := h
    refine ⟨_, pss_one (ps_ret (pe_ix ix_tupD (pe_fld (pv 0) rfl) (pe_meth (pv 0) T.cl PL.m PL.ok hr PL.b .nil pass0 (pa_cons (pv 1) pa_nil)) (fun _ _ => rfl))), ?_⟩
    obtain ⟨dx, tn, on, wg, ws, wd, e, h1, hn, h2, h3, h4⟩ := hb.ex
    refine ⟨.ref b, rfl, b, C, dx, _, _, rfl, e, T.cl, T.n4, bf_drops, .ref b, rfl, b, dx, _, rfl, e, bf_no (NoF.mk' (by decide +kernel)), .str z, rfl, b, M, z, j, rfl, hb, ok, ej, fun H1 s1 => ?_⟩
    exact ⟨_, j, .int n, Dt.same s1 _ h4, rfl, map_get en, fun v dv => by cases dv; exact q H1 s1⟩
theorem ok_notes {f fp C : Addr} {fd fdp : FuncData} (F : Fun K "notes" "Book.notes" sNotes f fd) (T : ClsF K C) (B3 : Blt3 mg) (PL : HasM P w K mg base C 3 "place_of" ["self", "who"] (spPlace K C) fp fdp) :
    FnOk P w K mg base CX0 4 f fd ["self", "who"] (spRow K C fun l _ => l) := by
  refine F.ok scNotes (fun vs H Q E h => ?_) (fun cdv A outer s H vs Q E hr h => ?_)
  · obtain ⟨_, _, _, _, _, _, rfl, _⟩ := h
    rfl
  · obtain ⟨b, M, z, j, l, n, rfl, hb, ok, ej, el, en, hl, q⟩ := h
    refine ⟨_, pss_one (ps_ret (pe_callTy call_listD (by rfl) B3.list (by decide +kernel) (pa_cons (pe_ix ix_tupD (pe_fld (pv 0) rfl) (pe_meth (pv 0) T.cl PL.m PL.ok hr PL.b .nil pass0 (pa_cons (pv 1) pa_nil)) (fun _ _ => rfl)) pa_nil))), ?_⟩
    obtain ⟨dx, tn, on, wg, ws, wd, e, h1, hn, h2, h3, h4⟩ := hb.ex
    refine ⟨.ref b, rfl, b, C, dx, _, _, rfl, e, T.cl, T.n3, bf_stacks, .ref b, rfl, b, dx, _, rfl, e, bf_no (NoF.mk' (by decide +kernel)), .str z, rfl, b, M, z, j, rfl, hb, ok, ej, fun H1 s1 => ?_⟩
    refine ⟨_, j, stackD l, Dt.same s1 _ h3, rfl, map_get el, fun v dv => ⟨v, _, rfl, .inl dv, fun r xs nr dx => ?_⟩⟩
    exact q r xs _ (s1.trans (same_upd nr)) (s1.free nr) upd_same (DtAll.same (same_upd nr) _ dx)
theorem ok_pile {f fs fn ff C : Addr} {fd fds fdn fdf : FuncData} (F : Fun K "pile" "Book.pile" sPile f fd) (T : ClsF K C) (SP : Has P w K mg base 1 "split_notes" ["notes", "fallen"] (spSplit K) fs fds)
    (NT : HasM P w K mg base C 4 "notes" ["self", "who"] (spRow K C fun l _ => l) fn fdn) (FL : HasM P w K mg base C 4 "fallen" ["self", "who"] (spNum K C Bk.drops) ff fdf) :
    FnOk P w K mg base CX0 5 f fd ["self", "who"] (spRow K C leftN) := by
  refine F.ok scPile (fun vs H Q E h => ?_) (fun cdv A outer s H vs Q E hr h => ?_)
  · obtain ⟨_, _, _, _, _, _, rfl, _⟩ := h
    rfl
  · obtain ⟨b, M, z, j, l, n, rfl, hb, ok, ej, el, en, hl, q⟩ := h
    refine ⟨_, pss_cons (ps_asg (pe_call SP.ok (hr.mono (by decide)) (by rfl) SP.g SP.kp SP.b .nil pass0 (pa_cons (pe_meth (pv 0) T.cl NT.m NT.ok hr NT.b .nil pass0 (pa_cons (pv 1) pa_nil))
        (pa_cons (pe_meth (pv 0) T.cl FL.m FL.ok hr FL.b .nil pass0 (pa_cons (pv 1) pa_nil)) pa_nil)))
        (pg_tup rfl (pgs_cons (pg_name (i := 2) scPile.nd rfl (.inl rfl)) (pgs_cons (pg_name (i := 3) scPile.nd rfl (.inl rfl)) pgs_nil))))
      (pss_one (ps_ret (pv 3))), ?_⟩
    obtain ⟨dx, tn, on, wg, ws, wd, e, h1, hn, h2, h3, h4⟩ := hb.ex
    refine ⟨.ref b, rfl, b, dx, _, rfl, e, bf_no (NoF.mk' (by decide +kernel)), .str z, rfl, b, M, z, j, l, n, rfl, hb, ok, ej, el, en, hl, fun r xs H1 s1 nr hr' dr => ?_⟩
    refine ⟨.ref b, rfl, b, dx, _, rfl, s1 _ _ e, bf_no (NoF.mk' (by decide +kernel)), .str z, rfl, b, M, z, j, n, rfl, book_same hb s1, ok, ej, en, fun H2 s2 => ?_⟩
    refine ⟨r, xs, true, l, n, rfl, .inl (.inl (s2 _ _ hr')), DtAll.same s2 _ dr, hl, fun t g m gx mx H3 s3 ht ng nm gm hg hm dg dm => ?_⟩
    refine ⟨t, _, rfl, .inl (.inl ht), rfl, _, _, rfl, _, _, rfl, rfl, .ref m, rfl, ?_⟩
    exact q m mx H3 (s1.trans (s2.trans s3)) ((s1.trans s2).free nm) hm dm
end
end Rc

namespace Rc
open PySem PySem.Spec PyProof.Rows L2 RZ
theorem walk_zipT {K : PySem.W.Frag} {a b : Addr} {xs ys : List V} {n : Nat} (hn : n = min xs.length ys.length) : Walk (ItzT K a b) n (fun H => SqT K H a xs ∧ SqT K H b ys) (YPair (fun i => xs[i]?) (fun i => ys[i]?)) := by
  subst hn
  refine ⟨fun i _ hi q => ?_, fun _ q => ⟨xs, ys, q.1, q.2, by omega⟩, fun i H v H' _ q y => ?_⟩
  · have h1 : i < xs.length := by omega
    have h2 : i < ys.length := by omega
    exact ⟨xs, ys, xs[i], ys[i], q.1, q.2, by simp [h1], by simp [h2]⟩
  · obtain ⟨T, x, z, g1, g2, g3, g4, g5⟩ := y
    exact ⟨T, x, z, g1, g2, g3, g4 xs q.1, g5 ys q.2⟩
def sumTo (z : Str) (l : List (Str × Int)) : Int := ((l.filter fun n => decide (n.1 = z)).map (·.2)).sum
def fallTo (M : Bk) (z : Str) : Int := ((M.stacks.zip M.drops).map fun p => sumTo z (goneN p.1 p.2)).sum
theorem len_le_sum : ∀ {l : List (List (Str × Int))} {x : List (Str × Int)}, x ∈ l → x.length ≤ (l.map List.length).sum
  | [], _, h => by cases h
  | y :: r, x, h => by
    rw [List.map_cons, List.sum_cons]
    rcases List.mem_cons.mp h with e | e
    · rw [e]
      exact Nat.le_add_right _ _
    · have := len_le_sum e
      omega
theorem Bk.Ok.row {M : Bk} (h : M.Ok) {l : List (Str × Int)} (hm : l ∈ M.stacks) : l.length ≤ 60 := Nat.le_trans (len_le_sum hm) h.many
theorem Bk.Ok.at_ {M : Bk} (h : M.Ok) {j : Nat} {z : Str} (e : M.names[j]? = some z) : ∃ g l d, M.gifts[j]? = some g ∧ M.stacks[j]? = some l ∧ M.drops[j]? = some d ∧ l.length ≤ 60 := by
  have hj : j < M.names.length := (List.getElem?_eq_some_iff.mp e).1
  have h1 : j < M.gifts.length := by rw [h.lg]; exact hj
  have h2 : j < M.stacks.length := by rw [h.ls]; exact hj
  have h3 : j < M.drops.length := by rw [h.ld]; exact hj
  exact ⟨_, _, _, List.getElem?_eq_getElem h1, List.getElem?_eq_getElem h2, List.getElem?_eq_getElem h3, h.row (List.getElem_mem h2)⟩
section
variable {P : Program} {w : World} {K : PySem.W.Frag} {mg : Str → Option Value} {base : Heap}
/-! ### fallen_to -/
abbrev sFallTo : Stmt := inBook 10
abbrev nFallTo : List Str := ["self", "who", "name", "total", "stack", "drop", "gone", "left", "to", "part"]
theorem scFallTo : FnScope nFallTo ["self", "who"] (defScope sFallTo) := ⟨rfl, rfl, rfl, by decide +kernel, rfl, by decide +kernel, by decide +kernel⟩
def spCalc (K : PySem.W.Frag) (C : Addr) (g : Bk → Nat → Str → Int) : Sp := fun vs H Q _ => ∃ (b : Addr) (M : Bk) (z : Str) (j : Nat), vs = [.ref b, .str z] ∧ BookAt K C H b M ∧ M.Ok ∧ M.names[j]? = some z ∧ ∀ H', Same H H' → Q (.int (g M j z)) H'
theorem ok_fallTo {f fp fs C : Addr} {fd fdp fds : FuncData} (F : Fun K "fallen_to" "Book.fallen_to" sFallTo f fd) (T : ClsF K C) (B3 : Blt3 mg) (PL : HasM P w K mg base C 3 "place_of" ["self", "who"] (spPlace K C) fp fdp)
    (SP : Has P w K mg base 1 "split_notes" ["notes", "fallen"] (spSplit K) fs fds) : FnOk P w K mg base CX0 4 f fd ["self", "who"] (spCalc K C fun M _ z => fallTo M z) := by
  refine F.ok scFallTo (fun vs H Q E h => ?_) (fun cdv A outer s H vs Q E hr h => ?_)
  · obtain ⟨_, _, _, _, rfl, _⟩ := h
    rfl
  · obtain ⟨b, M, z, j, rfl, hb, ok, ej, q⟩ := h
    refine ⟨_, pss_cons (ps_set (i := 2) scFallTo.nd rfl (.inr rfl) (pe_ix ix_tup (pe_fld (pv 0) rfl) (pe_meth (pv 0) T.cl PL.m PL.ok hr PL.b .nil pass0 (pa_cons (pv 1) pa_nil)) (fun _ _ => rfl)))
      (pss_cons (ps_set (i := 3) scFallTo.nd rfl (.inl rfl) pe_int)
      (pss_cons (ps_for PassesOwn.never rfl (pi_zipA (by rfl) B3.zip (pa_cons (pe_fld (pv 0) rfl) (pa_cons (pe_fld (pv 0) rfl) pa_nil))) (pg_tup rfl (pgs_cons (pg_name (i := 4) scFallTo.nd rfl (.inl rfl)) (pgs_cons (pg_name (i := 5) scFallTo.nd rfl (.inl rfl)) pgs_nil)))
        (pss_cons (ps_asg (pe_call SP.ok (hr.mono (by decide)) (by rfl) SP.g SP.kp SP.b .nil pass0 (pa_cons (pv 4) (pa_cons (pv 5) pa_nil))) (pg_tup rfl (pgs_cons (pg_name (i := 6) scFallTo.nd rfl (.inl rfl)) (pgs_cons (pg_name (i := 7) scFallTo.nd rfl (.inl rfl)) pgs_nil))))
        (pss_one (ps_aug (i := 3) scFallTo.nd rfl (.inl rfl) (pe_callB (cr_sum rfl) (by rfl) B3.sum (by decide +kernel) (pa_cons
          (pe_lc (own := [("to", 8), ("part", 9)]) (g := gTup K 2 (gCons (gName 8) (gCons (gName 9) gNil))) rfl scFallTo.nd (pi_list (pv 6)) (blkOk_by (N := nFallTo) (sc := defScope sFallTo) (own := [("to", 8), ("part", 9)]) (by decide +kernel))
            (fun _ _ _ _ _ => pg_tup rfl (pgs_cons (pg_name (i := 8) scFallTo.nd rfl (.inl rfl) (hf := .inr rfl)) (pgs_cons (pg_name (i := 9) scFallTo.nd rfl (.inl rfl) (hf := .inr rfl)) pgs_nil)))
            (fun _ _ _ _ _ => pts_one (pt_cmpR op_eq (pv 8) (pv 2) (nomark _))) (fun _ _ _ _ _ => pv 9)) pa_nil)) ip_add))))
      (pss_one (ps_ret (pv 3))))), ?_⟩
    obtain ⟨dx, tn, on, wg, ws, wd, e, h1, hn, h2, h3, h4⟩ := hb.ex
    refine ⟨.ref b, rfl, b, C, dx, _, _, rfl, e, T.cl, T.n1, bf_names, .ref b, rfl, b, dx, _, rfl, e, bf_no (NoF.mk' (by decide +kernel)), .str z, rfl, b, M, z, j, rfl, hb, ok.names, ej, fun H1 s1 => ?_⟩
    refine ⟨tn, _, _, .str z, rfl, rfl, .inl (.inr ⟨on, s1 _ _ h1⟩), atI_nat (map_get ej), ?_⟩
    have h3' := Dt.same s1 _ h3
    have h4' := Dt.same s1 _ h4
    obtain ⟨ta, xs, rfl, qa, da⟩ := h3'.tup_inv
    obtain ⟨tb, ys, rfl, qb, db⟩ := h4'.tup_inv
    have ey := db.ints_eq
    subst ey
    refine ⟨.ref b, rfl, b, C, dx, _, _, rfl, s1 _ _ e, T.cl, T.n3, bf_stacks, .ref b, rfl, b, C, dx, _, _, rfl, s1 _ _ e, T.cl, T.n4, bf_drops, ta, tb, xs, _, rfl, .inr ⟨qa, qb, ?_⟩⟩
    have lx : xs.length = M.names.length := by
      rw [da.len, List.length_map, ok.ls]
    have ly : (M.drops.map V.int).length = M.names.length := by
      rw [List.length_map, ok.ld]
    refine for_it (walk_zipT (xs := xs) (ys := M.drops.map V.int) (n := M.names.length) (by rw [lx, ly, Nat.min_self])) (fun i σ H' => ∃ y4 y5 y6 y7 y8 y9, σ = [some (.ref b), some (.str z), some (.str z), some (.int (((M.stacks.zip M.drops).take i).map fun p => sumTo z (goneN p.1 p.2)).sum), y4, y5, y6, y7, y8, y9] ∧ Same H1 H')
      ⟨_, _, _, _, _, _, rfl, Same.refl _⟩ (fun i σ H' _ hP => ?_) (fun i x σ H2' H2 hi hP hY => ?_) (fun σ H' hP => ?_)
    · obtain ⟨_, _, _, _, _, _, _, s2⟩ := hP
      exact ⟨same_seqT s2 qa, same_seqT s2 qb⟩
    · obtain ⟨y4, y5, y6, y7, y8, y9, rfl, s2⟩ := hP
      obtain ⟨Tt, x1, x2, rfl, nT, rfl, e1, e2⟩ := hY
      have e1' : xs[i]? = some x1 := e1
      have e2' : (M.drops.map V.int)[i]? = some x2 := e2
      have hs : i < M.stacks.length := by rw [ok.ls]; exact hi
      have hdr : i < M.drops.length := by rw [ok.ld]; exact hi
      rw [List.getElem?_map, List.getElem?_eq_getElem hdr] at e2'
      have ex2 : x2 = .int M.drops[i] := (Option.some.inj e2').symm
      subst ex2
      obtain ⟨v1, g1, d1⟩ := da.get (n := i) (d := stackD M.stacks[i]) (map_get (List.getElem?_eq_getElem hs))
      rw [e1'] at g1
      cases g1
      have s3 := s2.trans (same_upd (o := .tup [x1, V.int M.drops[i]]) nT)
      obtain ⟨sa, sx, rfl, sq, sd⟩ := (Dt.same s3 _ d1).tup_inv
      refine ⟨Tt, _, rfl, .inl (.inl upd_same), rfl, _, _, rfl, _, _, rfl, rfl, ?_⟩
      refine ⟨.ref sa, rfl, _, rfl, sa, sx, false, M.stacks[i], M.drops[i], rfl, sq, sd, by have := ok.row (List.getElem_mem hs); omega, fun t g m gx mx H4 s4 ht ng nm gm hg hm dg dm => ?_⟩
      refine ⟨t, _, rfl, .inl (.inl ht), rfl, _, _, rfl, _, _, rfl, rfl, ?_⟩
      refine ⟨_, rfl, .ref g, rfl, g, rfl, ⟨_, .inl (.inl hg)⟩, fun D nD => ?_⟩
      generalize hG : goneN M.stacks[i] M.drops[i] = G at dg
      have lg : gx.length = G.length := by
        rw [dg.len]
        unfold notesD
        rw [List.length_map]
      have lG : G.length ≤ 60 := by
        rw [← hG]
        exact Nat.le_trans (goneN_len _ _) (ok.row (List.getElem_mem hs))
      refine lc_it (walk_list (xs := gx)) (fun i' H' => Same H4 H' ∧ H' D = some (.lst (((G.take i').filter fun n => decide (n.1 = z)).map fun n => .int n.2))) ⟨same_upd nD, upd_same⟩ (fun i' H' _ hP => hP.1.seq (.inl (.inl hg)))
        (fun i' x' H5' H5 hi' hP hY => ?_) (fun H5 hP => ?_)
      · obtain ⟨rfl, hx⟩ := hY
        obtain ⟨hil, dn⟩ := (DtAll.same hP.1 _ dg).notes_get hx
        obtain ⟨na, rfl, qn⟩ := note_inv dn
        refine ⟨na, _, rfl, qn, rfl, _, _, rfl, _, _, rfl, rfl, rfl, _, rfl, _, rfl, rfl, _, rfl, ?_⟩
        have tk : G.take (i' + 1) = G.take i' ++ [G[i']] := by
          rw [List.take_add_one, List.getElem?_eq_getElem hil]
          rfl
        by_cases hz : G[i'].1 = z
        · rw [show decide (V.str G[i'].1 = V.str z) = true from decide_eq_true (by rw [hz])]
          refine iteT ⟨_, rfl, _, hP.2, ?_, fun c o ec => ?_, ?_⟩
          · rw [List.length_map]
            have := List.length_filter_le (fun n : Str × Int => decide (n.1 = z)) (G.take i')
            rw [List.length_take] at this
            exact small1000 (by omega)
          · rw [upd_ne (ne_of_none ec nD)]
            exact hP.1 c o ec
          · rw [upd_same, tk, List.filter_append, List.map_append]
            simp [hz]
        · rw [show decide (V.str G[i'].1 = V.str z) = false from decide_eq_false (fun c => hz (V.str.inj c))]
          refine iteF ⟨hP.1, ?_⟩
          rw [hP.2, tk, List.filter_append]
          simp [hz]
      · refine ⟨D, (G.filter fun n => decide (n.1 = z)).map (·.2), rfl, .inl (.inl ?_), _, _, rfl, rfl, ?_⟩
        · rw [hP.2, lg, List.take_length, List.map_map]
          rfl
        refine ⟨some (.ref sa), some (.int M.drops[i]), some (.ref g), some (.ref m), y8, y9, ?_, s3.trans (s4.trans hP.1)⟩
        have tk : (M.stacks.zip M.drops).take (i + 1) = (M.stacks.zip M.drops).take i ++ [(M.stacks[i], M.drops[i])] := by
          rw [List.take_add_one, List.getElem?_zip_eq_some (z := (M.stacks[i], M.drops[i])) |>.mpr ⟨List.getElem?_eq_getElem hs, List.getElem?_eq_getElem hdr⟩]
          rfl
        rw [tk, List.map_append, List.sum_append]
        simp only [List.map_cons, List.map_nil, List.sum_cons, List.sum_nil, Int.add_zero]
        rw [hG]
        rfl
    · obtain ⟨y4, y5, y6, y7, y8, y9, rfl, s2⟩ := hP
      refine ⟨_, rfl, ?_⟩
      rw [List.take_of_length_le (by rw [List.length_zip, ok.ls, ok.ld, Nat.min_self]; exact Nat.le_refl _)]
      exact q _ (s1.trans s2)
end
end Rc

namespace Rc
open PySem PySem.Spec PyProof.Rows L2 RZ
def cashM (M : Bk) (j : Nat) (z : Str) : Int := M.gifts.getD j 0 + fallTo M z - M.drops.getD j 0
def putM (M : Bk) (j : Nat) (y : Str) (n : Int) : Bk := { M with stacks := M.stacks.set j (M.stacks.getD j [] ++ [(y, n)]) }
def giveM (M : Bk) (j : Nat) (n : Int) : Bk := { M with gifts := M.gifts.set j (M.gifts.getD j 0 + n) }
theorem getD_of {α : Type} {l : List α} {j : Nat} {x d : α} (h : l[j]? = some x) : l.getD j d = x := by
  rw [List.getD_eq_getElem?_getD, h]
  rfl
def rLenS (K : PySem.W.Frag) : List V → Hp → VK → Prop := fun xs H Q => ∃ p ys, xs = [V.ref p] ∧ (SqL K H p ys ∨ SqT K H p ys) ∧ Q (V.int ys.length) H
theorem call_lenS {X : Cx} {K : PySem.W.Frag} (e : X.K = K) : CallR X (.builtin "len") (rLenS K) := by
  subst e
  exact call_len_seq
def manyM (M : Bk) : Nat := (M.stacks.map List.length).sum
section
variable {P : Program} {w : World} {K : PySem.W.Frag} {mg : Str → Option Value} {base : Heap}
/-! ### cash -/
abbrev sCash : Stmt := inBook 11
theorem scCash : FnScope ["self", "who"] ["self", "who"] (defScope sCash) := ⟨rfl, rfl, rfl, by decide +kernel, rfl, by decide +kernel, by decide +kernel⟩
theorem ok_cash {f f1 f2 f3 C : Addr} {fd fd1 fd2 fd3 : FuncData} (F : Fun K "cash" "Book.cash" sCash f fd) (T : ClsF K C) (GV : HasM P w K mg base C 4 "given" ["self", "who"] (spNum K C Bk.gifts) f1 fd1)
    (FT : HasM P w K mg base C 4 "fallen_to" ["self", "who"] (spCalc K C fun M _ z => fallTo M z) f2 fd2) (FL : HasM P w K mg base C 4 "fallen" ["self", "who"] (spNum K C Bk.drops) f3 fd3) :
    FnOk P w K mg base CX0 5 f fd ["self", "who"] (spCalc K C cashM) := by
  refine F.ok scCash (fun vs H Q E h => ?_) (fun cdv A outer s H vs Q E hr h => ?_)
  · obtain ⟨_, _, _, _, rfl, _⟩ := h
    rfl
  · obtain ⟨b, M, z, j, rfl, hb, ok, ej, q⟩ := h
    refine ⟨_, pss_one (ps_ret (pe_op op_sub (pe_op op_add (pe_meth (pv 0) T.cl GV.m GV.ok hr GV.b .nil pass0 (pa_cons (pv 1) pa_nil)) (pe_meth (pv 0) T.cl FT.m FT.ok hr FT.b .nil pass0 (pa_cons (pv 1) pa_nil))) (pe_meth (pv 0) T.cl FL.m FL.ok hr FL.b .nil pass0 (pa_cons (pv 1) pa_nil)))), ?_⟩
    obtain ⟨g, l, d, eg, el, ed, _⟩ := ok.at_ ej
    obtain ⟨dx, tn, on, wg, ws, wd, e, h1, hn, h2, h3, h4⟩ := hb.ex
    refine ⟨.ref b, rfl, b, dx, _, rfl, e, bf_no (NoF.mk' (by decide +kernel)), .str z, rfl, b, M, z, j, g, rfl, hb, ok.names, ej, eg, fun H1 s1 => ?_⟩
    refine ⟨.ref b, rfl, b, dx, _, rfl, s1 _ _ e, bf_no (NoF.mk' (by decide +kernel)), .str z, rfl, b, M, z, j, rfl, book_same hb s1, ok, ej, fun H2 s2 => ⟨_, _, rfl, rfl, ?_⟩⟩
    have s12 := s1.trans s2
    refine ⟨.ref b, rfl, b, dx, _, rfl, s12 _ _ e, bf_no (NoF.mk' (by decide +kernel)), .str z, rfl, b, M, z, j, d, rfl, book_same hb s12, ok.names, ej, ed, fun H3 s3 => ⟨_, _, rfl, rfl, ?_⟩⟩
    have ec : cashM M j z = g + fallTo M z - d := by
      unfold cashM
      rw [getD_of eg, getD_of ed]
    have qq := q _ (s12.trans s3)
    rw [ec] at qq
    exact qq
/-! ### put, give -/
abbrev sPut : Stmt := inBook 12
abbrev nPut : List Str := ["self", "who", "to", "amount", "place", "name", "stack"]
theorem scPut : FnScope nPut ["self", "who", "to", "amount"] (defScope sPut) := ⟨rfl, rfl, rfl, by decide +kernel, rfl, by decide +kernel, by decide +kernel⟩
def spPut (K : PySem.W.Frag) (C : Addr) : Sp := fun vs H Q _ => ∃ (b : Addr) (M : Bk) (z y : Str) (j k : Nat) (n : Int), vs = [.ref b, .str z, .str y, .int n] ∧ BookAt K C H b M ∧ M.Ok ∧ M.names[j]? = some z ∧ M.names[k]? = some y ∧ 1 ≤ n ∧ manyM M < 60 ∧
  ∀ b' H', Same H H' → H b' = none → BookAt K C H' b' (putM M j y n) → Q (.ref b') H'
theorem map_set {α β : Type} (f : α → β) (l : List α) (j : Nat) (x : α) : (l.map f).set j (f x) = (l.set j x).map f := by
  rw [List.map_set]
theorem ok_put {f f1 f2 f3 f4 C : Addr} {fd fd1 fd2 fd3 fd4 : FuncData} (F : Fun K "put" "Book.put" sPut f fd) (T : ClsF K C) (B : Blt mg) (B3 : Blt3 mg) (gM : ∃ t, mg "MOST" = some (.int 60 t))
    (PL : HasM P w K mg base C 3 "place_of" ["self", "who"] (spPlace K C) f1 fd1) (CA : Has P w K mg base 3 "check_amount" ["amount"] (spCheckA K) f2 fd2) (CH : Has P w K mg base 1 "with_changed" ["row", "place", "thing"] (spChg K) f3 fd3)
    (WT : HasM P w K mg base C 5 "with_these" ["self", "gifts", "stacks", "drops"] (spWith K C) f4 fd4) : FnOk P w K mg base CX0 6 f fd ["self", "who", "to", "amount"] (spPut K C) := by
  obtain ⟨tM, gM⟩ := gM
  refine F.ok scPut (fun vs H Q E h => ?_) (fun cdv A outer s H vs Q E hr h => ?_)
  · obtain ⟨_, _, _, _, _, _, _, rfl, _⟩ := h
    rfl
  · obtain ⟨b, M, z, y, j, k, n, rfl, hb, ok, ej, ek, n1, mm, q⟩ := h
    have hr3 := hr.mono (show 3 ≤ 5 by decide)
    have hr1 := hr.mono (show 1 ≤ 5 by decide)
    refine ⟨_, pss_cons (ps_set (i := 4) scPut.nd rfl (.inl rfl) (pe_meth (pv 0) T.cl PL.m PL.ok hr3 PL.b .nil pass0 (pa_cons (pv 1) pa_nil)))
      (pss_cons (ps_set (i := 5) scPut.nd rfl (.inl rfl) (pe_ix ix_tup (pe_fld (pv 0) rfl) (pe_meth (pv 0) T.cl PL.m PL.ok hr3 PL.b .nil pass0 (pa_cons (pv 2) pa_nil)) (fun _ _ => rfl)))
      (pss_cons (ps_expr (pe_call CA.ok hr3 (by rfl) CA.g CA.kp CA.b .nil pass0 (pa_cons (pv 3) pa_nil)))
      (pss_cons (ps_if (pt_cmpR op_ge (pe_callB (cr_sum rfl) (by rfl) B3.sum (by decide +kernel) (pa_cons
          (pe_lc (own := [("stack", 6)]) (g := gName 6) (tt := tYes) rfl scPut.nd (pi_tup (pe_fld (pv 0) rfl)) (blkOk_by (N := nPut) (sc := defScope sPut) (own := [("stack", 6)]) (by decide +kernel))
            (fun _ _ _ _ _ => pg_name (i := 6) scPut.nd rfl (.inl rfl) (hf := .inr rfl)) (fun _ _ _ _ _ => pts_nil)
            (fun _ _ _ _ _ => pe_callB (call_lenS (K := K) rfl) (by rfl) B.len PySem.boot_len (pa_cons (pv 6) pa_nil))) pa_nil)) (pe_glob (v := .int 60) (by rfl) gM ⟨_, rfl⟩) (nomark _)) pss_never pss_nil)
      (pss_cons (ps_set (i := 6) scPut.nd rfl (.inl rfl) (pe_op op_catD (pe_ix ix_tupD (pe_fld (pv 0) rfl) (pv 4) (fun _ _ => rfl)) (pe_tup (pa_cons (pe_tup (pa_cons (pv 5) (pa_cons (pv 3) pa_nil))) pa_nil))))
      (pss_one (ps_ret (pe_meth (pv 0) T.cl WT.m WT.ok hr WT.b .nil pass0 (pa_cons (pe_fld (pv 0) rfl) (pa_cons (pe_call CH.ok hr1 (by rfl) CH.g CH.kp CH.b .nil pass0 (pa_cons (pe_fld (pv 0) rfl) (pa_cons (pv 4) (pa_cons (pv 6) pa_nil))))
        (pa_cons (pe_fld (pv 0) rfl) pa_nil)))))))))), ?_⟩
    obtain ⟨g, l, d, eg, el, ed, ll⟩ := ok.at_ ej
    obtain ⟨dx, tn, on, wg, ws, wd, e, h1, hn, h2, h3, h4⟩ := hb.ex
    refine ⟨.ref b, rfl, b, dx, _, rfl, e, bf_no (NoF.mk' (by decide +kernel)), .str z, rfl, b, M, z, j, rfl, hb, ok.names, ej, fun H1 s1 => ?_⟩
    refine ⟨.ref b, rfl, b, C, dx, _, _, rfl, s1 _ _ e, T.cl, T.n1, bf_names, .ref b, rfl, b, dx, _, rfl, s1 _ _ e, bf_no (NoF.mk' (by decide +kernel)), .str y, rfl, b, M, y, k, rfl, book_same hb s1, ok.names, ek, fun H2 s2 => ?_⟩
    have s12 := s1.trans s2
    refine ⟨tn, _, _, .str y, rfl, rfl, .inl (.inr ⟨on, s12 _ _ h1⟩), atI_nat (map_get ek), ?_⟩
    refine ⟨.int n, rfl, n, rfl, n1, fun H3 s3 => ?_⟩
    have s13 := s12.trans s3
    obtain ⟨ta, xs, ews, qa, da⟩ := (Dt.same s13 _ h3).tup_inv
    subst ews
    refine ⟨.ref b, rfl, b, C, dx, _, _, rfl, s13 _ _ e, T.cl, T.n3, bf_stacks, ta, rfl, ⟨_, qa⟩, fun D nD => ?_⟩
    refine lc_it (walk_tup (xs := xs)) (fun i H' => Same H3 H' ∧ H' D = some (.lst ((M.stacks.take i).map fun l => .int (l.length : Nat)))) ⟨same_upd nD, upd_same⟩ (fun i H' _ hP => same_seqT hP.1 qa)
      (fun i x H4' H4 hi hP hY => ?_) (fun H4 hP => ?_)
    · obtain ⟨rfl, hx⟩ := hY
      have hs : i < M.stacks.length := by
        have := da.len
        rw [List.length_map] at this
        omega
      obtain ⟨v1, g1, d1⟩ := da.get (n := i) (d := stackD M.stacks[i]) (map_get (List.getElem?_eq_getElem hs))
      rw [hx] at g1
      cases g1
      obtain ⟨sa, sx, rfl, sq, sd⟩ := (Dt.same hP.1 _ d1).tup_inv
      have lsx : sx.length = M.stacks[i].length := by
        rw [sd.len]
        unfold notesD
        rw [List.length_map]
      refine ⟨rfl, .ref sa, rfl, sa, sx, rfl, .inr sq, _, hP.2, ?_, fun c o ec => ?_, ?_⟩
      · rw [List.length_map, List.length_take]
        have := ok.n1
        have := ok.ls
        exact small1000 (by omega)
      · rw [upd_ne (ne_of_none ec nD)]
        exact hP.1 c o ec
      · rw [upd_same, List.take_add_one, List.getElem?_eq_getElem hs, List.map_append, lsx]
        rfl
    · have lx : xs.length = M.stacks.length := by
        rw [da.len, List.length_map]
      refine ⟨D, M.stacks.map fun l => ((l.length : Nat) : Int), rfl, .inl (.inl ?_), _, _, rfl, rfl, _, rfl, ?_⟩
      · rw [hP.2, lx, List.take_length, List.map_map]
        rfl
      have esum : (M.stacks.map fun l => ((l.length : Nat) : Int)).sum = ((manyM M : Nat) : Int) := by
        unfold manyM
        generalize M.stacks = S
        induction S with
        | nil => rfl
        | cons a r ih =>
          rw [List.map_cons, List.sum_cons, ih, List.map_cons, List.sum_cons]
          omega
      rw [esum, show decide ((60 : Int) ≤ ((manyM M : Nat) : Int)) = false from decide_eq_false (by omega)]
      have s14 := s13.trans hP.1
      refine iteF ?_
      refine ⟨.ref b, rfl, b, C, dx, _, _, rfl, s14 _ _ e, T.cl, T.n3, bf_stacks, .int (j : Nat), rfl, _, j, stackD l, Dt.same s14 _ h3, rfl, map_get el, fun v dv => ?_⟩
      refine ⟨.str y, rfl, .int n, rfl, by show 2 ≤ sizeLine; decide, fun t1 nt1 => ⟨by show 1 ≤ sizeLine; decide, fun t2 nt2 => ?_⟩⟩
      have s5 := (same_upd (o := .tup [V.str y, V.int n]) nt1).trans (same_upd (o := .tup [V.ref t1]) nt2)
      refine ⟨notesD l, [noteD (y, n)], Dt.same s5 _ dv, .tup (.inl (.inl upd_same)) (.cons (.tup (.inl (.inl (same_upd nt2 _ _ upd_same))) (.cons (.str y) (.cons (.int n) .nil))) .nil), ?_, fun v6 H6 s6 d6 => ?_⟩
      · unfold notesD
        rw [List.length_map, List.length_singleton]
        omega
      have s16 := s14.trans (s5.trans s6)
      have en : notesD l ++ [noteD (y, n)] = notesD (l ++ [(y, n)]) := by
        unfold notesD
        rw [List.map_append]
        rfl
      rw [en] at d6
      -- self.with_these(self.gifts, with_changed(self.stacks, place, stack), self.drops)
      refine ⟨.ref b, rfl, b, dx, _, rfl, s16 _ _ e, bf_no (NoF.mk' (by decide +kernel)), .ref b, rfl, b, C, dx, _, _, rfl, s16 _ _ e, T.cl, T.n2, bf_gifts, .ref b, rfl, b, C, dx, _, _, rfl, s16 _ _ e, T.cl, T.n3, bf_stacks,
        .int (j : Nat), rfl, v6, rfl, _, _, j, v6, stackD (l ++ [(y, n)]), rfl, Dt.same s16 _ h3, d6, ?_, ?_, fun v7 H7 s7 d7 => ?_⟩
      · rw [List.length_map]
        exact (List.getElem?_eq_some_iff.mp el).1
      · rw [List.length_map, ok.ls]
        have := ok.n1
        omega
      have s17 := s16.trans s7
      rw [map_set] at d7
      refine ⟨.ref b, rfl, b, C, dx, _, _, rfl, s17 _ _ e, T.cl, T.n4, bf_drops, b, M, _, _, _, M.gifts, _, M.drops, rfl, book_same hb s17, ok.names, Dt.same s17 _ h2, d7, Dt.same s17 _ h4, fun b' H8 s8 nb hb' => ?_⟩
      refine q b' H8 (s17.trans s8) (s17.free nb) ?_
      have ep : putM M j y n = ⟨M.names, M.gifts, M.stacks.set j (l ++ [(y, n)]), M.drops⟩ := by
        unfold putM
        rw [getD_of el]
      rw [ep]
      exact hb'
abbrev sGive : Stmt := inBook 13
theorem scGive : FnScope ["self", "who", "amount", "place", "gift"] ["self", "who", "amount"] (defScope sGive) := ⟨rfl, rfl, rfl, by decide +kernel, rfl, by decide +kernel, by decide +kernel⟩
def spGive (K : PySem.W.Frag) (C : Addr) : Sp := fun vs H Q _ => ∃ (b : Addr) (M : Bk) (z : Str) (j : Nat) (n : Int), vs = [.ref b, .str z, .int n] ∧ BookAt K C H b M ∧ M.Ok ∧ M.names[j]? = some z ∧ 1 ≤ n ∧
  ∀ b' H', Same H H' → H b' = none → BookAt K C H' b' (giveM M j n) → Q (.ref b') H'
theorem ok_give {f f1 f2 f3 f4 C : Addr} {fd fd1 fd2 fd3 fd4 : FuncData} (F : Fun K "give" "Book.give" sGive f fd) (T : ClsF K C)
    (PL : HasM P w K mg base C 3 "place_of" ["self", "who"] (spPlace K C) f1 fd1) (CA : Has P w K mg base 3 "check_amount" ["amount"] (spCheckA K) f2 fd2) (CH : Has P w K mg base 1 "with_changed" ["row", "place", "thing"] (spChg K) f3 fd3)
    (WT : HasM P w K mg base C 5 "with_these" ["self", "gifts", "stacks", "drops"] (spWith K C) f4 fd4) : FnOk P w K mg base CX0 6 f fd ["self", "who", "amount"] (spGive K C) := by
  refine F.ok scGive (fun vs H Q E h => ?_) (fun cdv A outer s H vs Q E hr h => ?_)
  · obtain ⟨_, _, _, _, _, rfl, _⟩ := h
    rfl
  · obtain ⟨b, M, z, j, n, rfl, hb, ok, ej, n1, q⟩ := h
    have hr3 := hr.mono (show 3 ≤ 5 by decide)
    have hr1 := hr.mono (show 1 ≤ 5 by decide)
    refine ⟨_, pss_cons (ps_set (i := 3) scGive.nd rfl (.inl rfl) (pe_meth (pv 0) T.cl PL.m PL.ok hr3 PL.b .nil pass0 (pa_cons (pv 1) pa_nil)))
      (pss_cons (ps_expr (pe_call CA.ok hr3 (by rfl) CA.g CA.kp CA.b .nil pass0 (pa_cons (pv 2) pa_nil)))
      (pss_cons (ps_set (i := 4) scGive.nd rfl (.inl rfl) (pe_op op_add (pe_ix ix_tupD (pe_fld (pv 0) rfl) (pv 3) (fun _ _ => rfl)) (pv 2)))
      (pss_one (ps_ret (pe_meth (pv 0) T.cl WT.m WT.ok hr WT.b .nil pass0 (pa_cons (pe_call CH.ok hr1 (by rfl) CH.g CH.kp CH.b .nil pass0 (pa_cons (pe_fld (pv 0) rfl) (pa_cons (pv 3) (pa_cons (pv 4) pa_nil))))
        (pa_cons (pe_fld (pv 0) rfl) (pa_cons (pe_fld (pv 0) rfl) pa_nil)))))))), ?_⟩
    obtain ⟨g, l, d, eg, el, ed, ll⟩ := ok.at_ ej
    obtain ⟨dx, tn, on, wg, ws, wd, e, h1, hn, h2, h3, h4⟩ := hb.ex
    refine ⟨.ref b, rfl, b, dx, _, rfl, e, bf_no (NoF.mk' (by decide +kernel)), .str z, rfl, b, M, z, j, rfl, hb, ok.names, ej, fun H1 s1 => ?_⟩
    refine ⟨.int n, rfl, n, rfl, n1, fun H3 s3 => ?_⟩
    have s13 := s1.trans s3
    refine ⟨.ref b, rfl, b, C, dx, _, _, rfl, s13 _ _ e, T.cl, T.n2, bf_gifts, .int (j : Nat), rfl, _, j, .int g, Dt.same s13 _ h2, rfl, map_get eg, fun v dv => ?_⟩
    cases dv
    refine ⟨.int n, rfl, g, n, rfl, rfl, ?_⟩
    refine ⟨.ref b, rfl, b, dx, _, rfl, s13 _ _ e, bf_no (NoF.mk' (by decide +kernel)), .ref b, rfl, b, C, dx, _, _, rfl, s13 _ _ e, T.cl, T.n2, bf_gifts,
      .int (j : Nat), rfl, .int (g + n), rfl, _, _, j, _, .int (g + n), rfl, Dt.same s13 _ h2, .int _, ?_, ?_, fun v7 H7 s7 d7 => ?_⟩
    · rw [List.length_map]
      exact (List.getElem?_eq_some_iff.mp eg).1
    · rw [List.length_map, ok.lg]
      have := ok.n1
      omega
    have s17 := s13.trans s7
    rw [map_set] at d7
    refine ⟨.ref b, rfl, b, C, dx, _, _, rfl, s17 _ _ e, T.cl, T.n3, bf_stacks, .ref b, rfl, b, C, dx, _, _, rfl, s17 _ _ e, T.cl, T.n4, bf_drops, b, M, _, _, _, _, M.stacks, M.drops, rfl, book_same hb s17, ok.names, d7, Dt.same s17 _ h3, Dt.same s17 _ h4, fun b' H8 s8 nb hb' => ?_⟩
    refine q b' H8 (s17.trans s8) (s17.free nb) ?_
    have ep : giveM M j n = ⟨M.names, M.gifts.set j (g + n), M.stacks, M.drops⟩ := by
      unfold giveM
      rw [getD_of eg]
    rw [ep]
    exact hb'
/-! ### key -/
abbrev sKey : Stmt := inBook 16
theorem scKey : FnScope ["self"] ["self"] (defScope sKey) := ⟨rfl, rfl, rfl, by decide +kernel, rfl, by decide +kernel, by decide +kernel⟩
def keyD (M : Bk) : PyData := .tuple [.tuple (M.names.map .str), .tuple (M.gifts.map .int), .tuple (M.stacks.map stackD), .tuple (M.drops.map .int)]
def spKey (K : PySem.W.Frag) (C : Addr) : Sp := fun vs H Q _ => ∃ b M, vs = [.ref b] ∧ BookAt K C H b M ∧ ∀ v H', Same H H' → Dt K H' v (keyD M) → Q v H'
theorem ok_key {f C : Addr} {fd : FuncData} (F : Fun K "key" "Book.key" sKey f fd) (T : ClsF K C) : FnOk P w K mg base CX0 1 f fd ["self"] (spKey K C) := by
  refine F.ok scKey (fun vs H Q E h => ?_) (fun cdv A outer s H vs Q E hr h => ?_)
  · obtain ⟨_, _, rfl, _⟩ := h
    rfl
  · obtain ⟨b, M, rfl, hb, q⟩ := h
    refine ⟨_, pss_one (ps_ret (pe_tup (pa_cons (pe_fld (pv 0) rfl) (pa_cons (pe_fld (pv 0) rfl) (pa_cons (pe_fld (pv 0) rfl) (pa_cons (pe_fld (pv 0) rfl) pa_nil)))))), ?_⟩
    obtain ⟨dx, tn, on, wg, ws, wd, e, h1, hn, h2, h3, h4⟩ := hb.ex
    refine ⟨.ref b, rfl, b, C, dx, _, _, rfl, e, T.cl, T.n1, bf_names, .ref b, rfl, b, C, dx, _, _, rfl, e, T.cl, T.n2, bf_gifts, .ref b, rfl, b, C, dx, _, _, rfl, e, T.cl, T.n3, bf_stacks, .ref b, rfl, b, C, dx, _, _, rfl, e, T.cl, T.n4, bf_drops, by show 4 ≤ sizeLine; decide, fun t nt => ?_⟩
    have st := same_upd (o := .tup [V.ref tn, wg, ws, wd]) nt
    exact q _ _ st (.tup (.inl (.inl upd_same)) (.cons (.tup (.inl (.inr ⟨on, st _ _ h1⟩)) (DtAll.strs _)) (.cons (Dt.same st _ h2) (.cons (Dt.same st _ h3) (.cons (Dt.same st _ h4) .nil)))))
end
end Rc

namespace Rc
open PySem PySem.Spec PyProof.Rows L2 RZ
theorem out_it {J : It} {n : Nat} {G : Hp → Prop} {Y : Nat → Hp → V → Hp → Prop} (w : Walk J n G Y) {Body : V → Hp → (Hp → Prop) → Prop} {H0 : Hp} {Qd : Hp → Prop} (Pv : Nat → Hp → Prop) (h0 : Pv 0 H0) (hG : ∀ i H, i ≤ n → Pv i H → G H)
    (hs : ∀ i x H H', i < n → Pv i H → Y i H x H' → Body x H' (Pv (i + 1))) (hd : ∀ H, Pv n H → Qd H) :
    ∃ W : Nat → Nat → Hp → Prop, (∃ m, W 0 m H0) ∧ ∀ i m H, W i m H → (J.stop i H ∧ Qd H) ∨ (J.go i H ∧ ∃ Nx : Hp → Prop, (∀ H', Nx H' → ∃ m', m' < m ∧ W (i + 1) m' H') ∧ ∀ x H', J.yld i H x H' → Body x H' Nx) := by
  refine ⟨fun i m H => m = n - i ∧ i ≤ n ∧ Pv i H, ⟨n, by simp, Nat.zero_le _, h0⟩, ?_⟩
  rintro i m H ⟨rfl, hi, p⟩
  have g := hG i H hi p
  by_cases hlt : i < n
  · exact .inr ⟨w.goes i H hlt g, Pv (i + 1), fun H' p' => ⟨n - (i + 1), by omega, rfl, hlt, p'⟩, fun x H' y => hs i x H H' hlt p (w.yields i H x H' hlt g y)⟩
  · obtain rfl : i = n := by omega
    exact .inl ⟨w.stops H g, hd H p⟩
def leftM (M : Bk) (i : Nat) : List (Str × Int) := ((M.stacks.zip M.drops).take i).flatMap fun p => leftN p.1 p.2
theorem leftM_succ {M : Bk} {i : Nat} {l : List (Str × Int)} {d : Int} (h1 : M.stacks[i]? = some l) (h2 : M.drops[i]? = some d) : leftM M (i + 1) = leftM M i ++ leftN l d := by
  unfold leftM
  rw [List.take_add_one, List.getElem?_zip_eq_some (z := (l, d)) |>.mpr ⟨h1, h2⟩, List.flatMap_append]
  simp
theorem leftM_len (M : Bk) (ok : M.Ok) : ∀ i, (leftM M i).length ≤ ((M.stacks.take i).map List.length).sum
  | 0 => by simp [leftM]
  | i + 1 => by
    have ih := leftM_len M ok i
    by_cases h : i < M.stacks.length
    · have h2 : i < M.drops.length := by
        rw [ok.ld, ← ok.ls]
        exact h
      rw [leftM_succ (List.getElem?_eq_getElem h) (List.getElem?_eq_getElem h2), List.take_add_one, List.getElem?_eq_getElem h, List.map_append, List.sum_append, List.length_append]
      have := leftN_len M.stacks[i] M.drops[i]
      simp only [Option.toList_some, List.map_cons, List.map_nil, List.sum_cons, List.sum_nil]
      omega
    · have e1 : (M.stacks.zip M.drops).take (i + 1) = (M.stacks.zip M.drops).take i := by
        rw [List.take_of_length_le (by rw [List.length_zip]; omega), List.take_of_length_le (by rw [List.length_zip]; omega)]
      have e2 : M.stacks.take (i + 1) = M.stacks.take i := by
        rw [List.take_of_length_le (by omega), List.take_of_length_le (by omega)]
      unfold leftM at ih ⊢
      rw [e1, e2]
      exact ih
theorem sum_take_le : ∀ (l : List (List (Str × Int))) (i : Nat), ((l.take i).map List.length).sum ≤ (l.map List.length).sum
  | [], _ => by simp
  | _ :: _, 0 => by simp
  | a :: r, i + 1 => by
    have := sum_take_le r i
    simp only [List.take_succ_cons, List.map_cons, List.sum_cons]
    omega
section
variable {P : Program} {w : World} {K : PySem.W.Frag} {mg : Str → Option Value} {base : Heap}
abbrev sLefts : Stmt := inBook 17
abbrev nLefts : List Str := ["self", "who", "note"]
theorem scLefts : FnScope nLefts ["self"] (defScope sLefts) := ⟨rfl, rfl, rfl, by decide +kernel, rfl, by decide +kernel, by decide +kernel⟩
def spLefts (K : PySem.W.Frag) (C : Addr) : Sp := fun vs H Q _ => ∃ b M, vs = [.ref b] ∧ BookAt K C H b M ∧ M.Ok ∧ ∀ r xs H', Same H H' → H r = none → H' r = some (.lst xs) → xs.length = (leftM M M.names.length).length → Q (.ref r) H'
theorem ok_lefts {f fp C : Addr} {fd fdp : FuncData} (F : Fun K "notes_left" "Book.notes_left" sLefts f fd) (T : ClsF K C) (PI' : HasM P w K mg base C 5 "pile" ["self", "who"] (spRow K C leftN) fp fdp) :
    FnOk P w K mg base CX0 6 f fd ["self"] (spLefts K C) := by
  refine F.ok scLefts (fun vs H Q E h => ?_) (fun cdv A outer s H vs Q E hr h => ?_)
  · obtain ⟨_, _, rfl, _⟩ := h
    rfl
  · obtain ⟨b, M, rfl, hb, ok, q⟩ := h
    refine ⟨_, pss_one (ps_ret (pe_lc2 (own := [("who", 1), ("note", 2)]) (vs1 := [2]) (g := gName 1) (g1 := gName 2) (tt := tYes) (tt1 := tYes) (te := tVar 2) (wi1 := iList K (tMeth C "pile" (spRow K C leftN) [] E0 (tVar 0) (tCons (tVar 1) tNil))) rfl scLefts.nd (pi_tup (pe_fld (pv 0) rfl))
      (blkOk_by (N := nLefts) (sc := defScope sLefts) (own := [("who", 1), ("note", 2)]) (by decide +kernel)) (by decide) (fun _ _ _ _ _ => pg_name (i := 1) scLefts.nd rfl (.inl rfl) (hf := .inr rfl)) (fun _ _ _ _ _ => pts_nil)
      (fun _ _ _ _ _ => pi_list (pe_meth (pv 0) T.cl PI'.m PI'.ok hr PI'.b .nil pass0 (pa_cons (pv 1) pa_nil))) (fun _ _ _ _ _ => pg_name (i := 2) scLefts.nd rfl (.inl rfl) (hf := .inr rfl)) (fun _ _ _ _ _ => pts_nil) (fun _ _ _ _ _ => pv 2))), ?_⟩
    obtain ⟨dx, tn, on, wg, ws, wd, e, h1, hn, h2, h3, h4⟩ := hb.ex
    have qn : SqT K H tn (M.names.map V.str) := .inl (.inr ⟨on, h1⟩)
    refine ⟨.ref b, rfl, b, C, dx, _, _, rfl, e, T.cl, T.n1, bf_names, tn, rfl, ⟨_, qn⟩, fun D nD => ?_⟩
    have bound : ∀ i, (leftM M i).length ≤ 60 := fun i => Nat.le_trans (leftM_len M ok i) (Nat.le_trans (sum_take_le _ _) ok.many)
    refine out_it (walk_tup (K := K) (a := tn) (xs := M.names.map V.str)) (fun i H' => Same H H' ∧ ∃ acc, H' D = some (.lst acc) ∧ acc.length = (leftM M i).length) ⟨same_upd nD, [], upd_same, rfl⟩ (fun i H' _ hP => same_seqT hP.1 qn)
      (fun i x H1' H1 hi hP hY => ?_) (fun H1 hP => ?_)
    · obtain ⟨rfl, hx⟩ := hY
      rw [List.length_map] at hi
      obtain ⟨s1, acc, hD, ha⟩ := hP
      have ex : x = .str M.names[i] := by
        rw [List.getElem?_map, List.getElem?_eq_getElem hi] at hx
        exact (Option.some.inj hx).symm
      subst ex
      obtain ⟨g, l, d, eg, el, ed, ll⟩ := ok.at_ (List.getElem?_eq_getElem hi)
      refine ⟨rfl, ?_⟩
      refine ⟨.ref b, rfl, b, dx, _, rfl, s1 _ _ e, bf_no (NoF.mk' (by decide +kernel)), _, rfl, b, M, _, i, l, d, rfl, book_same hb s1, ok.names, List.getElem?_eq_getElem hi, el, ed, by omega, fun r xs H2 s2 nr hr2 dr => ?_⟩
      have lx : xs.length = (leftN l d).length := by
        rw [dr.len]
        unfold notesD
        rw [List.length_map]
      have rD : r ≠ D := (ne_of_none hD nr).symm
      refine ⟨r, rfl, ⟨_, .inl (.inl hr2)⟩, ?_⟩
      have es := leftM_succ el ed
      have b1 := bound (i + 1)
      rw [es, List.length_append] at b1
      refine out_it (walk_list (K := K) (a := r) (xs := xs)) (fun j H' => Same H H' ∧ H' r = some (.lst xs) ∧ ∃ acc', H' D = some (.lst acc') ∧ acc'.length = (leftM M i).length + j) ⟨s1.trans s2, hr2, acc, s2 _ _ hD, by omega⟩ (fun j H' _ hP => .inl (.inl hP.2.1))
        (fun j y H3' H3 hj hP hY => ?_) (fun H3 hP => ?_)
      · obtain ⟨rfl, hy⟩ := hY
        obtain ⟨s3, hr3, acc', hD3, ha3⟩ := hP
        refine ⟨rfl, y, rfl, acc', hD3, small1000 (by omega), fun c o ec => ?_, ?_, acc' ++ [y], upd_same, ?_⟩
        · rw [upd_ne (ne_of_none ec nD)]
          exact s3 c o ec
        · rw [upd_ne rD]
          exact hr3
        · rw [List.length_append, ha3]
          rfl
      · obtain ⟨s3, hr3, acc', hD3, ha3⟩ := hP
        exact ⟨s3, acc', hD3, by rw [es, List.length_append, ha3, lx]⟩
    · obtain ⟨s1, acc, hD, ha⟩ := hP
      rw [List.length_map] at ha
      exact q D acc H1 s1 nD hD ha
/-! ### len -/
abbrev sLenB : Stmt := inBook 19
theorem scLenB : FnScope ["self"] ["self"] (defScope sLenB) := ⟨rfl, rfl, rfl, by decide +kernel, rfl, by decide +kernel, by decide +kernel⟩
def lenM (M : Bk) : Nat := (leftM M M.names.length).length
def spLenB (K : PySem.W.Frag) (C : Addr) : Sp := fun vs H Q _ => ∃ b M, vs = [.ref b] ∧ BookAt K C H b M ∧ M.Ok ∧ ∀ H', Same H H' → Q (.int (lenM M : Nat)) H'
theorem ok_lenB {f fp C : Addr} {fd fdp : FuncData} (F : Fun K "__len__" "Book.__len__" sLenB f fd) (T : ClsF K C) (B : Blt mg) (LF : HasM P w K mg base C 6 "notes_left" ["self"] (spLefts K C) fp fdp) :
    FnOk P w K mg base CX0 7 f fd ["self"] (spLenB K C) := by
  refine F.ok scLenB (fun vs H Q E h => ?_) (fun cdv A outer s H vs Q E hr h => ?_)
  · obtain ⟨_, _, rfl, _⟩ := h
    rfl
  · obtain ⟨b, M, rfl, hb, ok, q⟩ := h
    refine ⟨_, pss_one (ps_ret (pe_callB call_len_seq (by rfl) B.len PySem.boot_len (pa_cons (pe_meth0 (pv 0) T.cl LF.m LF.ok hr LF.b .nil pass0) pa_nil))), ?_⟩
    obtain ⟨dx, tn, on, wg, ws, wd, e, h1, hn, h2, h3, h4⟩ := hb.ex
    refine ⟨.ref b, rfl, b, dx, _, rfl, e, bf_no (NoF.mk' (by decide +kernel)), b, M, rfl, hb, ok, fun r xs H' s' nr hr' hl => ?_⟩
    refine ⟨r, xs, rfl, .inl (.inl (.inl hr')), ?_⟩
    rw [hl]
    exact q H' s'
theorem lenM_le {M : Bk} (ok : M.Ok) : lenM M ≤ 60 := Nat.le_trans (leftM_len M ok _) (Nat.le_trans (sum_take_le _ _) ok.many)
/-- len(book) -/
def rLenB (K : PySem.W.Frag) (C : Addr) : List V → Hp → VK → Prop := fun xs H Q => ∃ b M, xs = [.ref b] ∧ BookAt K C H b M ∧ M.Ok ∧ ∀ H', Same H H' → Q (.int (lenM M : Nat)) H'
theorem call_lenB {X : Cx} {C f : Addr} {fd : FuncData} (G : FnOk X.prog X.w X.K X.mg X.base CX0 7 f fd ["self"] (spLenB X.K C)) (bd : Binds X.K fd ["self"] []) (hm : Meth X.K C "__len__" f) (hr : Room 8 X.A) : CallR X (.builtin "len") (rLenB X.K C) := by
  intro pins s σ H xs us Q I r h
  obtain ⟨b, M, rfl, hb, ok, q⟩ := h
  obtain ⟨u, rfl, ru⟩ := vals1 r
  cases ru
  obtain ⟨dx, tn, on, wg, ws, wd, e, h1, hn, h2, h3, h4⟩ := hb.ex
  obtain ⟨m, Fm⟩ := I.fr
  obtain ⟨mA, O, _⟩ := ins_get I.hok e
  obtain ⟨od, J, _⟩ := O.look
  refine PySem.W.len_K Fm I.ok.mod.kin J hm.at_ hm.fn ?_
  have e0 := I.env0
  refine wpAny_call (codeAny_mono (G.run X.A.in1 X.stack s H ⟨[.ref b], []⟩ [.ref b] [.ref b] (fun v H' => v = .int (lenM M : Nat) ∧ Q (.int (lenM M : Nat)) H') E0 hr.in1 e0.in1 (bd s [.ref b] I.kIn rfl) (.cons rfl .nil) ⟨b, M, rfl, hb, ok, fun H' s' => ⟨rfl, q H' s'⟩⟩) fun r s' hq => ?_)
  match r, hq with
  | .error e, hq => exact hq.elim
  | .ok .next, hq => exact hq.elim
  | .ok .brk, hq => exact hq.elim
  | .ok .cont, hq => exact hq.elim
  | .ok (.ret u), hq =>
    obtain ⟨v, H', I', rv, ev, q'⟩ := I.after hq
    subst ev
    obtain ⟨t, rfl⟩ := rv
    have := lenM_le ok
    exact ⟨⟨by omega, by omega⟩, ⟨.int _, H', I'.tok _, ⟨_, rfl⟩, q'⟩⟩
end
end Rc

set_option maxHeartbeats 2000000
namespace Rc
open PySem PySem.Spec PyProof.Rows L2 LamX
/-! ### a list walked while its key is asked -/
theorem walks_listR {prog : Program} {w : World} {A : Around} (hh : A.handled = none) (I ax : Addr) (hne : ax ≠ I) (xs : List V) :
    Walks prog w A I [I, ax] [I] xs.length (fun i v => ∃ x, xs[i]? = some x ∧ RelV x v) (fun i h => h.IsListIter I ax i ∧ ∃ items : Array Value, h.IsList ax items ∧ Vals xs items.toList) where
  sub := fun b hb => by simp at hb; simp [hb]
  frame := fun _ _ _ st hk => by
    obtain ⟨h1, items, h2, h3⟩ := st
    exact ⟨h1.at fun o e => hk I (by simp) o e, items, h2.at fun o e => hk ax (by simp) o e, h3⟩
  item := fun i s Q E hi st hQ => by
    obtain ⟨h1, items, h2, h3⟩ := st
    obtain ⟨u, hu, ru⟩ := h3.get (List.getElem?_eq_getElem hi)
    have hs : items[i]? = some u := by
      rw [← Array.getElem?_toList]
      exact hu
    refine wpAny_pyNext_list_item h1 h2 (x := u) hs fun h' hit' hs' => ?_
    exact hQ _ h' s.toks ⟨_, List.getElem?_eq_getElem hi, ru⟩ ⟨hit', items, h2.extBut hs'.extBut hne, h3⟩ fun b o hb e => hs'.extBut b o (fun h => hb (by simp [h])) e
  done := fun s Q E st hQ => by
    obtain ⟨h1, items, h2, h3⟩ := st
    have l : items.size = xs.length := by
      rw [← Array.length_toList]
      exact h3.length.symm
    exact wpAny_pyNext_list_end hh h1 h2 (by rw [← l]; simp) fun h' he' => hQ h' s.toks fun b o hb e => he' b o (fun h => hb (by simp [h])) e
  self := fun _ _ _ _ st hQ => wpAny_pyIter_listiter st.1 hQ
/-! ### a lambda with one parameter -/
structure LamS1 (sc scope : Scope) (x : Str) : Prop where
  kind : scope.kind = .function
  co : scope.isCoroutine = false
  gen : scope.isGenerator = false
  own : ∀ y ∈ scope.names, (y.2 = .local → y.1 = x) ∧ y.2 ≠ .cell
  loc : scope.names.lookup x = some .local
  free : ∀ y ∈ scope.names, y.2 = .free → sc.names.lookup y.1 = some .cell ∨ sc.names.lookup y.1 = some .free
theorem LamS1.has {X : Cx} {scope : Scope} {x : Str} (L : LamS1 X.env.scope scope x) (ok : X.Ok) : ∀ y ∈ scope.names, y.2 = .free → ∃ c, X.env.cells.lookup y.1 = some c := fun y hy e => by
  rcases L.free y hy e with k | k
  · exact ok.has _ (.inl k)
  · exact ok.has _ (.inr k)
section
variable {X : Cx} {pins : List (Addr × Obj)} {σ : L2.St} {H HZ : Hp} {s s1 : Shared}
theorem lam_start1 {A : Around} {outer : List Env} {E : XK} {scope : Scope} {f c' : Addr} {h₁ : Heap} {tk : Nat} {x : Str} {io : Nat} {v : V} {u : Value} (I : Inv X pins σ H s) (L : LamS1 X.env.scope scope x) (hN : X.N.Nodup) (hio : X.N[io]? = some x) (rv : RelV v u)
    (e0 : Env0 X.prog X.w X.K X.mg X.base A outer s1 HZ) (hd : A.handled = none)
    (un : Un (frs X.stack) [] H HZ s.heap s1.heap) (hns : h₁.Ns s1.heap.objs.size fun y => ([(x, u)] : List (Str × Value)).reverse.lookup y) (kp : ∀ b o, s1.heap.get? b = some o → h₁.get? b = some o) :
    Inv (lamCx X A outer s1 HZ E scope f c') [] (σ.set io (some v)) HZ { s1 with heap := h₁, toks := tk } := by
  have hfree := L.has I.ok
  have cm : ∀ {y c}, (cloFrom X.env.cells scope.names []).lookup y = some c → X.env.cells.lookup y = some c := fun {y c} e => by
    rcases cloFrom_mem (PySem.mem_of_lookup e) with hm | ⟨h1, h2⟩
    · cases hm
    · obtain ⟨c1, hc⟩ := hfree _ h1 rfl
      have hc : X.env.cells.lookup y = some c1 := hc
      have e2 : c = c1 := by
        rw [h2, hc] <;> rfl
      rw [e2]
      exact hc
  have look : ∀ {y}, scope.names.lookup y = some .free → ∃ c, (cloFrom X.env.cells scope.names []).lookup y = some c := fun {y} hl => by
    have hy : (y, NameKind.free) ∈ scope.names := PySem.mem_of_lookup hl
    exact mem_lookup (cloFrom_has (cells := X.env.cells) (acc := []) hy)
  have cellK : ∀ {c : Addr} {v : Option Value}, H c = none → s.heap.IsCell c v → h₁.IsCell c v := fun {c v} n ⟨o, ho, hd⟩ => by
    obtain ⟨sl, q⟩ := un.any ho n (by simp)
    exact ⟨_, kp _ _ q, hd⟩
  have noA : ∀ b : Addr, b ∉ (lamCx X A outer s1 HZ E scope f c').ex := fun b z => absurd (show b ∈ ([] : List Addr) from z) (by simp)
  refine ⟨⟨e0.mod, L.kind, rfl, rfl, Nat.le_refl _, fun y z c e1 e2 => I.ok.inj y z c (cm e1) (cm e2), fun y hy => ?_, fun y c z _ => ?_, fun _ => hd, Around.frames_deeper e0.frames, .inr ⟨rfl, rfl⟩, fun b z => absurd z (noA b), e0.bs, e0.bsz, fun b _ _ => noA b,
      fun b z => absurd z (noA b), e0.funs, e0.frf⟩,
    rfl, e0.bare, Un.kept kp, ⟨_, hns, fun i y v' e1 e2 e3 => ?_⟩, fun y c e => ?_, e0.hok.fresh (Nat.le_refl _), fun y c e => ?_, fun q hq => absurd (show q ∈ ([] : List (Addr × Obj)) ++ [] from hq) (by simp), e0.hok.kept kp, by rw [List.length_set]; exact I.len⟩
  · have hy : scope.names.lookup y = some .cell ∨ scope.names.lookup y = some .free := hy
    rcases hy with hy | hy
    · exact absurd rfl (L.own _ (PySem.mem_of_lookup hy)).2
    · exact look hy
  · have z : false = true := z
    cases z
  · have e1 : X.N[i]? = some y := e1
    have e3 : Vis scope y := e3
    rcases e3 with k | k | k
    · have hy : y = x := (L.own _ (PySem.mem_of_lookup k)).1 rfl
      subst hy
      have hi : i = io := nodup_ix hN e1 hio
      subst hi
      have hl : i < σ.length := by
        rw [I.len]
        exact (List.getElem?_eq_some_iff.mp e1).1
      rw [List.getElem?_set_self hl] at e2
      cases e2
      exact ⟨u, rv, .inl ⟨k, by simp [List.lookup]⟩⟩
    · exact absurd rfl (L.own _ (PySem.mem_of_lookup k)).2
    · obtain ⟨m, hn, hl⟩ := I.loc
      have hvis : Vis X.env.scope y := (L.free _ (PySem.mem_of_lookup k) rfl).elim (fun k => .inr (.inl k)) (fun k => .inr (.inr k))
      have hyx : y ≠ x := fun z => by
        rw [z, L.loc] at k
        cases k
      have hii : io ≠ i := fun z => by
        rw [← z, hio] at e1
        exact hyx (Option.some.inj e1).symm
      rw [List.getElem?_set_ne hii] at e2
      obtain ⟨w', r, q⟩ := hl i y v' e1 e2 hvis
      obtain ⟨c2, h2⟩ := look k
      refine ⟨w', r, .inr ⟨.inr k, c2, h2, ?_⟩⟩
      have c1 := cm h2
      rcases q with ⟨k', _⟩ | ⟨_, c3, e', z⟩
      · have k' : X.env.scope.names.lookup y = some .local := k'
        rcases L.free _ (PySem.mem_of_lookup k) rfl with k2 | k2 <;> rw [show X.env.scope.names.lookup y = _ from k2] at k' <;> cases k'
      · rw [c1] at e'
        cases e'
        exact cellK (I.freeC y _ c1) z
  · obtain ⟨w', z⟩ := I.cell y c (cm e)
    exact ⟨w', cellK (I.freeC y c (cm e)) z⟩
  · obtain ⟨v, o, ho, hd⟩ := I.cell y c (cm e)
    exact un.free c o ho (I.freeC y c (cm e)) (by simp)
/-- the lambda called with a value, from our own frame -/
theorem lam_call1 {A : Around} {f c' : Addr} {pm ctv : Value} {params : Arguments} {body : Expr} {scope : Scope} {k io : Nat} {x : Str} {v : V} {u : Value} {tb : TE} {Q : VK} {E : Value → Shared → Prop} (I : Inv X pins σ H s) (L : LamS1 X.env.scope scope x) (hN : X.N.Nodup) (hio : X.N[io]? = some x)
    (hf : s.heap.get? f = some (PySem.W.kla_obj "<lambda>" (X.env.qual ++ "<lambda>") params body scope (cloFrom X.env.cells scope.names []) pm c' ctv)) (hc : H c' = some (CodeO c' (X.env.qual ++ "<lambda>")))
    (hbind : bindArgs (PySem.W.kla_fn "<lambda>" (X.env.qual ++ "<lambda>") params body scope (cloFrom X.env.cells scope.names []) pm (.ref c') ctv) ⟨[u], []⟩ = pure [(x, u)]) (rv : RelV v u)
    (e0 : Env0 X.prog X.w X.K X.mg X.base A X.stack s H) (hr : Room (k + 1) A)
    (hbody : Room k (A.deeper (lamEnv X scope s.heap.objs.size f c')) → PE (lamCx X A X.stack s H E0 scope f c') body tb) (h : tb (σ.set io (some v)) H Q) :
    wpAny (model X.prog X.w) A (call (.ref f) [u]) (fun r s' => ∃ y H', Inv X pins σ H' s' ∧ Un (frs X.stack) [] H H' s.heap s'.heap ∧ RelV y r ∧ Q y H') E s := by
  obtain ⟨⟨oc, vs, t, hoc, hdc, hvc⟩, _, _⟩ := I.hok c' _ hc
  have rc : codeAny (model X.prog X.w) A (.call (.ref f) ⟨[u], []⟩) (CR (L2.CX X.prog X.w) X.stack X.prog X.w H s Q E0) s := by
    refine PySem.W.kla_callFunE hr.depth hf rfl L.co L.gen rfl ⟨c', oc, vs, t, rfl, hoc, hdc, hvc⟩ ?_
    rw [hbind]
    refine wpAny_pure (wpAny_newFunctionEnv (fun y hy => (L.own y hy).2) (fun y hy => ?_) (fun h₁ hns hsb => ⟨I.nolimit.fresh _ hsb, ?_⟩) L.kind)
    · rw [List.mem_singleton.mp hy]
      exact L.loc
    show codeAny _ _ (.expr body (lamEnv X scope s.heap.objs.size f c')) _ _
    have kp : ∀ b o, s.heap.get? b = some o → h₁.get? b = some o := fun b o e => hsb.extBut b o (Nat.ne_of_lt (Heap.lt_size e)) (Heap.get?_push_of_some _ e)
    have J : Inv (lamCx X A X.stack s H E0 scope f c') [] (σ.set io (some v)) H { s with heap := h₁, toks := s.toks + ([(x, u)] : List (Str × Value)).length } :=
      lam_start1 I L hN hio rv e0 hr.hd Un.refl hns kp
    refine PySem.W.kla_codeExpr (wpAny_mono ((hbody (hr.deeper _)).run [] _ _ H Q J h) (fun v s' hq => ?_) fun e s' hq => hq)
    obtain ⟨w', H', J', rv', q⟩ := hq
    exact ⟨w', H', J'.os, J'.bare, J'.base, J'.hok, rv', q⟩
  refine wpAny_call (codeAny_mono rc fun r s' hq => ?_)
  cases r with
  | error e =>
    obtain ⟨_, _, _, _, _, _, _, _, _, _, _, _, z⟩ := hq
    exact z.elim
  | ok fl =>
    cases fl with
    | ret u =>
      obtain ⟨v, H', os, bare, un, hok, r, q⟩ := hq
      obtain ⟨hh, g, d, t, os'⟩ := s'
      obtain rfl : os' = s.os := os
      exact ⟨v, H', I.call (h' := hh) (g' := g) (d' := d) (t' := t) (ch := []) un hok bare (fun b z => absurd z (by simp)), un, r, q⟩
    | next => exact False.elim hq
    | brk => exact False.elim hq
    | cont => exact False.elim hq
/-- max(e, key=lambda x: body) -/
def tMaxL (T : List (Addr × Str)) (ta : TA) (io : Nat) (tb : TE) : TE := fun σ H Q => ta σ H fun vs H1 => ∃ (L : Addr) (xs : List V) (key : Nat → Int), vs = [.ref L] ∧ H1 L = some (.lst xs) ∧ xs ≠ [] ∧ Tabs T H1 ∧ ∀ H2, ExtN H1 H2 → Tabs T H2 →
  (∀ i x H3, xs[i]? = some x → Same H2 H3 → tb (σ.set io (some x)) H3 fun v H4 => v = .int (key i) ∧ Same H3 H4) ∧ ∀ x ∈ xs, ∀ H3, Same H2 H3 → Q x H3
theorem pe_maxlam {T : List (Addr × Str)} {c P : Addr} {k io : Nat} {x : Str} {e : Expr} {ta : TA} {tb : TE} {params : Arguments} {body : Expr} {scope : Scope} {p lpos kp pos : Pos} (hc : X.calm = true) (hg : Gl X "max") (hm : X.mg "max" = none) (ha : PA X [e] ta)
    (TB : TabB X.base X.mg c P) (hcode : X.env.code = .ref c) (hmT : (P, X.env.qual ++ "<lambda>") ∈ T) (hu : ∀ p ∈ T, p.1 = P → p.2 = X.env.qual ++ "<lambda>") (hr : Room (k + 2) X.A) (L : LamS1 X.env.scope scope x) (hN : X.N.Nodup) (hio : X.N[io]? = some x) (hdef : defaultsOf params X.env = ([], []))
    (hbind : ∀ (q : Str) (cl : List (Str × Addr)) (pm cv ctv u : Value), bindArgs (PySem.W.kla_fn "<lambda>" q params body scope cl pm cv ctv) ⟨[u], []⟩ = pure [(x, u)])
    (hbody : ∀ (A : Around) (s : Shared) (H : Hp) (f c' : Addr), Room k (A.deeper (lamEnv X scope s.heap.objs.size f c')) → PE (lamCx X A X.stack s H E0 scope f c') body tb)
    (he : starEach [e] X.env = (false, eval e X.env) :: starEach [] X.env := by rfl) :
    PE X (.Call (.Name "max" p) [e] [⟨some "key", .Lambda params body scope lpos, kp⟩] pos) (tMaxL T ta io tb) := by
  refine ⟨fun pins s σ H Q I h => ?_⟩
  refine wpAny_Call_Name_kw (ld_blt I hg hm (by decide +kernel : bootBuiltins "max" = some (.builtin "max")) ?_)
  refine callWith_kw (thn (ha.run pos pins s σ H _ I h) fun us s1 ⟨vs, H1, I1, r1, q1⟩ => ?_) (by rw [he]; rfl) (by rw [he]; rfl)
  obtain ⟨LL, xs, key, rfl, hL1, ne, hT1, q1⟩ := q1
  obtain ⟨u, rfl, ru⟩ := vals1 r1
  obtain rfl : u = Value.ref LL := ru
  refine kws_cons (lam_make2 I1 TB hcode hmT hu hT1 hdef (L.has I1.ok) fun f c' pm ctv H2 s2 I2 eN T2 hf hfn hfr hco => ?_)
  refine kws_nil ?_
  obtain ⟨qb, q2⟩ := q1 H2 eN T2
  have hL2 : H2 LL = some (.lst xs) := eN _ _ hL1 (fun ps z => by cases z)
  show wpAny (model X.prog X.w) X.A (call (.builtin "max") [.ref LL] [(Str.ofString "key", .ref f)]) (EP X pins σ Q) X.xe s2
  refine call_max_walkK ?_
  obtain ⟨_, its, n0, vi, hli⟩ := I2.hok LL _ hL2
  have isl : s2.heap.IsList LL its.toArray := ⟨_, hli, rfl, _, rfl⟩
  have hlt : LL < s2.heap.objs.size := Heap.lt_size hli
  refine wpAny_pyIter_list isl ?_
  have hh : X.A.in1.handled = none := hr.hd
  have W := (walks_listR (prog := X.prog) (w := X.w) (A := X.A.in1) hh s2.heap.objs.size LL (Nat.ne_of_lt hlt) xs).toS
  generalize hIt : s2.heap.objs.size = It at W
  have k3 : ∀ b o, s2.heap.get? b = some o → (s2.heap.push { cls := .type "list_iterator", data := .fields #[.ref LL, .int 0 0] }).get? b = some o := fun b o e => Heap.get?_push_of_some _ e
  have I3 : Inv X pins σ H2 { s2 with heap := s2.heap.push { cls := .type "list_iterator", data := .fields #[.ref LL, .int 0 0] } } := I2.kept (t' := s2.toks) k3
  have hf3 := k3 _ _ hf
  have it3 : (s2.heap.push { cls := .type "list_iterator", data := .fields #[.ref LL, .int 0 0] }).IsListIter It LL 0 := by
    rw [← hIt]
    exact ⟨_, Heap.get?_push_size _ rfl, rfl, rfl⟩
  have is3 := isl.push { cls := .type "list_iterator", data := .fields #[.ref LL, .int 0 0] }
  have nIt : H2 It = none := by
    rw [← hIt]
    exact I2.hok.fresh (Nat.le_refl _)
  have fIt : FpOk X pins H2 It := I2.fpOk (Nat.le_of_eq hIt) nIt
  have sz3 : (s2.heap.push { cls := .type "list_iterator", data := .fields #[.ref LL, .int 0 0] }).objs.size = It + 1 := by
    rw [Heap.size_push, hIt]
  generalize s2.heap.push { cls := .type "list_iterator", data := .fields #[.ref LL, .int 0 0] } = h3 at I3 hf3 it3 is3 sz3
  have nfr : ∀ b, It ≤ b → b ∉ frs X.stack := fun b hb z => by
    rcases List.mem_cons.mp (I2.stkSub _ z) with e | e
    · have h1 := I2.lt
      rw [← e, hIt] at h1
      exact Nat.lt_irrefl _ (Nat.lt_of_lt_of_le h1 hb)
    · exact I2.nofs (by rw [hIt]; exact hb) e
  have fS : FpOk X pins H2 (It + 1) := I2.fpOk (by rw [hIt]; exact Nat.le_succ _) (I2.hok.fresh (by rw [hIt]; exact Nat.le_succ _))
  refine ⟨It, [It, LL], [It], _, xs.length, _, _, (fun s => ∃ H3, Inv X pins σ H3 s ∧ Same H2 H3 ∧ H3 It = none ∧ H3 (It + 1) = none ∧ H3 f = none ∧ s.heap.get? f = some (PySem.W.kla_obj "<lambda>" (X.env.qual ++ "<lambda>") params body scope (cloFrom X.env.cells scope.names []) pm c' ctv)), (fun i kk _ => ∃ t, kk = .int (key i) t), (fun i j => decide (key j < key i)), rfl, W, ⟨it3, _, is3, by simpa using vi⟩, ?_, ?_, ?_, ?_, ?_⟩
  · intro b hb
    show b < h3.objs.size
    rw [sz3]
    rcases List.mem_cons.mp hb with rfl | hb
    · exact Nat.lt_succ_self _
    · rw [List.mem_singleton.mp hb, ← hIt]
      exact Nat.lt_succ_of_lt hlt
  · exact Nat.pos_of_ne_zero fun z => ne (List.eq_nil_of_length_eq_zero z)
  · show KeyRun X.prog X.w X.A.in1 (.ref f) .Gt h3.objs.size [It] _ xs.length _ _ _ _ _
    rw [sz3]
    refine ⟨fun s s' hJ hm => ?_, fun i kk s s' hv _ => hv, fun i v s o Q' E' hi hP hJ hst hS cont => ?_, fun i j ki kj s Q' E' hJ hki hkj hq => ?_⟩
    · obtain ⟨H3, I4, ex, n1, n2, n3, hf4⟩ := hJ
      obtain ⟨hp, g, d, tt, os⟩ := s'
      obtain rfl : g = s.gens := hm.gens
      obtain rfl : d = s.drawn := hm.drawn
      obtain rfl : os = s.os := hm.os
      have I5 := I4.turnedL (t' := tt) (ch := [It + 1, It]) (fun b o hb e => hm.heap b o hb e) (fun b hb => by
        rcases List.mem_cons.mp hb with rfl | hb
        · exact ⟨n2, fS.2⟩
        · rw [List.mem_singleton.mp hb]
          exact ⟨n1, fIt.2⟩)
      have fl : f < It := by
        rw [← hIt]
        exact Heap.lt_size hf
      refine ⟨H3, I5, ex, n1, n2, n3, hm.heap f _ (fun z => ?_) hf4⟩
      rcases List.mem_cons.mp z with z | z
      · rw [z] at fl
        exact absurd fl (Nat.not_lt.mpr (Nat.le_succ It))
      · rw [List.mem_singleton.mp z] at fl
        exact Nat.lt_irrefl _ fl
    · obtain ⟨y, hy, ry⟩ := hP
      obtain ⟨H3, I4, ex, n1, n2, n3, hf4⟩ := hJ
      obtain ⟨hit, items, hl, hv⟩ := hst
      refine wpAny_mono (lam_call1 (k := k) I4 L hN hio hf4 (ex _ _ hco) (hbind _ _ _ _ _ _) ry I4.env0.in1 hr.in1 (fun hr' => hbody _ _ _ _ _ hr') (qb i y H3 hy ex)) (fun r s' hq => ?_) (fun _ _ z => z)
      obtain ⟨yy, H4, I5, un, ryy, rfl, ex4⟩ := hq
      obtain ⟨tt, rfl⟩ := ryy
      obtain ⟨oi, hoi, _⟩ := id hit
      have ex24 : Same H2 H4 := fun b o e => ex4 b o (ex b o e)
      obtain ⟨_, its4, n4, vi4, hli4⟩ := I5.hok LL _ (ex24 _ _ hL2)
      refine cont _ s' ⟨H4, I5, ex24, un.free It oi hoi n1 (by simp), un.free (It + 1) o hS n2 (by simp), un.free f _ hf4 n3 (by simp), un.keep f _ hf4 n3 hfr (by simp)⟩ ⟨hit.at fun o e => un.keep It o e n1 (nfr It (Nat.le_refl _)) (by simp), its4.toArray, ⟨_, hli4, rfl, _, rfl⟩, by simpa using vi4⟩ (un.keep (It + 1) o hS n2 (nfr _ (Nat.le_succ _)) (by simp)) ⟨_, rfl⟩ (fun j k' h => h)
    · obtain ⟨ti, rfl⟩ := hki
      obtain ⟨tj, rfl⟩ := hkj
      exact PySem.P.gt_int hq
  · exact ⟨H2, I3, fun _ _ e => e, nIt, fS.1, hfn, hf3⟩
  · intro v s' hP hJ
    obtain ⟨y, hy, ry⟩ := hP
    obtain ⟨H3, I4, ex, _⟩ := hJ
    exact ⟨y, H3, I4, ry, q2 y (List.mem_of_getElem? hy) H3 ex⟩
end
end Rc

namespace Rc
open PySem PySem.Spec PyProof.Rows L2 LamX
/-- the law's own heap at its entry: the script, and empty tables -/
def entryT (K : PySem.W.Frag) (ts : List Addr) (a : Addr) (o : Obj) (xs : List V) : Hp := fun b => if b ∈ ts then some (.tbl #[]) else entryH K a o xs b
/-- a law called where no repr is under way, with tables of code: cs, the code objects and their tables -/
theorem law_callGT {P : Program} {w : World} {K : PySem.W.Frag} {mg mb : Str → Option Value} {CX : CXT} {k : Nat} {fa a : Addr} {cs : List (Addr × Addr)} {fd : FuncData} {x : Str} {sp : Sp} {s₁ : Shared} {vs : List Value} {ns : List Int}
    (KX : K.In s₁.heap) (hns : s₁.heap.Ns mainGlobals mg) (hb : s₁.heap.Ns builtinsNs mb) (hbb : ∀ x : Str, x ≠ "__name__" → mb x = bootBuiltins x) (hlim : s₁.heap.NoLimit) (hg : s₁.gens = #[])
    (hT : ∀ p ∈ cs, s₁.heap.get? p.2 = some { cls := .none, data := .fields #[] }) (nT : ∀ p ∈ cs, K.lookup p.2 = none) (C : ∀ p ∈ cs, PySem.W.CodeHd s₁.heap p.1 p.2)
    (hbm : ∃ (bm : Addr) (ob : Obj), mg "__builtins__" = some (.ref bm) ∧ bm ≠ builtinsNs ∧ s₁.heap.get? bm = some ob ∧ ob.cls = .type "module" ∧ ob.dict = some builtinsNs ∧ ob.data = .plain)
    (ha : s₁.heap.get? a = some { cls := .type "list", data := .seq vs.toArray }) (hi : IntsAre vs ns) (hl : ns.length ≤ sizeLine) (hr : Room k callerA)
    (F : ∀ base : Heap, K.In base → base.Ns mainGlobals mg → (∀ p ∈ cs, TabB base mg p.1 p.2) → FnG P w K mg base CX k fa fd [x] sp) (hbind : ∀ (s : Shared) (u : Value), BindsTo s fd ⟨[u], []⟩ [(x, u)])
    (hsp : ∀ H : Hp, (∀ p ∈ cs, H p.2 = some (.tbl #[])) → SqL K H a (ns.map V.int) → sp [.ref a] H (fun v _ => v = .bl true) fun _ _ _ => False)
    (hCX : ∀ H e s', CX [] H s₁ (fun _ _ _ => False) e s' → False) :
    codeAny (model P w) callerA (.call (.ref fa) ⟨[.ref a], []⟩) (fun r s' => r = .ok (.ret (.bool true)) ∧ OldK s₁.heap s'.heap ∧ s'.os = s₁.os ∧ AllBare s'.gens) s₁ := by
  have rv := vals_ints hi
  have lv := hi.length
  have tab : ∀ {b : Addr}, b ∈ cs.map (·.2) → s₁.heap.get? b = some { cls := .none, data := .fields #[] } := fun {b} z => by
    obtain ⟨p, hp, rfl⟩ := List.mem_map.mp z
    exact hT p hp
  have mem : ∀ {p : Addr × Addr}, p ∈ cs → p.2 ∈ cs.map (·.2) := fun {p} hp => List.mem_map.mpr ⟨p, hp, rfl⟩
  have na : a ∉ cs.map (·.2) := fun z => by
    have e := tab z
    rw [ha] at e
    cases e
  generalize hH : entryT K (cs.map (·.2)) a { cls := .type "list", data := .seq vs.toArray } (ns.map V.int) = H
  have hat : ∀ {b : Addr} {u : HO}, H b = some u → (b ∈ cs.map (·.2) ∧ u = .tbl #[]) ∨ (b = a ∧ K.lookup a = none ∧ u = .frz { cls := .type "list", data := .seq vs.toArray } (.lst (ns.map V.int))) := fun {b u} e => by
    rw [← hH] at e
    unfold entryT at e
    split at e
    · rename_i z
      exact .inl ⟨z, (Option.some.inj e).symm⟩
    · exact .inr (entryH_at e)
  have hTb : ∀ p ∈ cs, H p.2 = some (.tbl #[]) := fun p hp => by
    rw [← hH]
    exact if_pos (mem hp)
  have sq : SqL K H a (ns.map V.int) := by
    cases hk : K.lookup a with
    | none =>
      refine .inl (.inr ⟨{ cls := .type "list", data := .seq vs.toArray }, ?_⟩)
      rw [← hH]
      exact (if_neg na).trans (if_pos ⟨rfl, hk⟩)
    | some o =>
      have e := KX a o hk
      rw [ha] at e
      cases e
      exact .inr ⟨_, vs.toArray, _, hk, rfl, rfl, rfl, by rw [List.size_toArray, lv]; exact hl, by simpa using rv⟩
  have hok : HOk P w H s₁.heap := fun b u e => by
    rcases hat e with ⟨z, rfl⟩ | ⟨rfl, _, rfl⟩
    · exact tab z
    · exact ⟨ha, by rw [List.length_map]; exact hl, vs, _, rv, ha⟩
  -- what is neither a list of values nor an empty table is not tracked
  have away : ∀ {b : Addr} {o : Obj}, s₁.heap.get? b = some o → (∀ z n, o.data ≠ .seq z n) → o.data ≠ .fields #[] → H b = none := fun {b o} e d1 d2 => by
    cases q : H b with
    | none => rfl
    | some u =>
      rcases hat q with ⟨z, _⟩ | ⟨rfl, _, _⟩
      · rw [tab z] at e
        cases e
        exact (d2 rfl).elim
      · rw [ha] at e
        cases e
        exact (d1 _ _ rfl).elim
  have nsK : ∀ {b : Addr} {m : Str → Option Value}, s₁.heap.Ns b m → (hidT s₁.heap H).Ns b m :=
    fun {b m} z => let ⟨o, es, ep, e, d, r⟩ := z; ⟨o, es, ep, hidT_get e (away e (fun z n y => by rw [d] at y; cases y) (fun y => by rw [d] at y; cases y)), d, r⟩
  have kb : K.In (hidT s₁.heap H) := fun b o e => hidT_get (KX b o e) (by
    cases q : H b with
    | none => rfl
    | some u =>
      rcases hat q with ⟨z, _⟩ | ⟨rfl, z, _⟩
      · obtain ⟨p, hp, rfl⟩ := List.mem_map.mp z
        rw [nT p hp] at e
        cases e
      · rw [z] at e
        cases e)
  have md : Mod K mg (hidT s₁.heap H) := ⟨kb, nsK hns, ⟨mb, nsK hb, hbb⟩, let ⟨mc, h1, h2⟩ := hlim; ⟨mc, nsK h1, h2⟩⟩
  have TB : ∀ p ∈ cs, TabB (hidT s₁.heap H) mg p.1 p.2 := fun p hp => by
    obtain ⟨gO, gE, gP, ge, gd, _⟩ := id hns
    have mp : mainGlobals ≠ p.2 := fun z => by
      rw [z, hT p hp] at ge
      cases ge
      cases gd
    refine ⟨?_, ?_, mp⟩
    · obtain ⟨o, us, file, tf, flags, tg, inF, text, tt, e1, r1, r2, r3, r4, r5, r6, r7, r8, r9⟩ := C p hp
      refine ⟨o, us, file, tf, flags, tg, inF, text, tt, hidT_get e1 (away e1 (fun z n y => by rw [r2] at y; cases y) fun y => ?_), r1, r2, r3, r4, r5, r6, r7, r8, r9⟩
      rw [r2] at y
      cases y
      simp at r3
    · obtain ⟨bm, ob, b1, b2, b3, b4, b5, b6⟩ := hbm
      refine ⟨bm, ob, b1, b2, fun z => ?_, fun z => ?_, hidT_get b3 (away b3 (fun z n y => by rw [b6] at y; cases y) fun y => by rw [b6] at y; cases y), b4, b5, b6⟩
      · rw [z, ge] at b3
        cases b3
        rw [gd] at b6
        cases b6
      · rw [z, hT p hp] at b3
        cases b3
        cases b6
  have e0 : Env0 P w K mg (hidT s₁.heap H) callerA [] s₁ H :=
    { frames := rfl, mod := md, bs := fun b o e => of_hidT e, bsz := Nat.le_of_eq (hidT_size _ _), funs := trivial, frf := fun b z => absurd (show b ∈ ([] : List Addr) from z) (by simp), hok := hok, bare := .of_eq hg }
  refine codeAny_mono ((F _ kb (nsK hns) TB).go callerA [] s₁ H ⟨[.ref a], []⟩ [.ref a] [.ref a] _ _ hr rfl e0 (hbind s₁ (.ref a)) (.cons rfl .nil) (hsp H hTb sq)) fun r s' h => ?_
  match r, h with
  | .error e, h => exact (hCX H e s' h).elim
  | .ok .next, h => exact h.elim
  | .ok .brk, h => exact h.elim
  | .ok .cont, h => exact h.elim
  | .ok (.ret u), h =>
    obtain ⟨v, H', os, bare, un, hok', r', q⟩ := h
    have q' : v = .bl true := q
    subst q'
    obtain rfl : u = Value.bool true := r'
    have rest : ∀ b o, b ∉ cs.map (·.2) → s₁.heap.get? b = some o → s'.heap.get? b = some o := fun b o nb e => by
      cases z : H b with
      | none => exact un.keep b o e z (fun y => absurd (show b ∈ ([] : List Addr) from y) (by simp)) (by simp)
      | some u =>
        rcases hat z with ⟨y, _⟩ | ⟨rfl, _, rfl⟩
        · exact absurd y nb
        · have e2 := (hok' _ _ (un.frzs _ _ _ z)).1
          rw [ha] at e
          cases e
          exact e2
    have grown : ∀ p ∈ cs, ∃ more : Array Value, s'.heap.get? p.2 = some { cls := .none, data := .fields more } := fun p hp => by
      obtain ⟨more, z⟩ := un.tbls p.2 #[] (hTb p hp)
      exact ⟨_, hok' p.2 _ z⟩
    refine ⟨rfl, ⟨fun b o e => ?_, fun b o e => ?_⟩, os, bare⟩
    · by_cases hm : b ∈ cs.map (·.2)
      · obtain ⟨p, hp, rfl⟩ := List.mem_map.mp hm
        obtain ⟨more, z⟩ := grown p hp
        rw [hT p hp] at e
        cases e
        exact .inr (.inl ⟨((C p hp).tab (hT p hp)).isCodeTable, rfl, #[], more, rfl, by rw [Array.empty_append]; exact z⟩)
      · exact .inl (rest b o hm e)
    · by_cases hm : b ∈ cs.map (·.2)
      · obtain ⟨p, hp, rfl⟩ := List.mem_map.mp hm
        obtain ⟨more, z⟩ := grown p hp
        exact ⟨_, z⟩
      · exact ⟨o, rest b o hm e⟩
/-- what a law's end file must bring, tables of code among it -/
def LawAtG (l : PySem.W.OpenLaw) (w : World) (K : PySem.W.Frag) (CX : CXT) (k n : Nat) (x : Str) (mg : Str → Option Value) (fa : Addr) (h : Heap) : Prop :=
  ∃ (fd : FuncData) (cs : List (Addr × Addr)) (sp : Sp), (∀ p ∈ cs, h.get? p.2 = some { cls := .none, data := .fields #[] } ∧ K.lookup p.2 = none ∧ PySem.W.CodeHd h p.1 p.2) ∧ (∀ (s : Shared) (u : Value), BindsTo s fd ⟨[u], []⟩ [(x, u)]) ∧
    (∀ (H : Hp) (a : Addr) (ns : List Int), ns.length ≤ n → (∀ p ∈ cs, H p.2 = some (.tbl #[])) → SqL K H a (ns.map V.int) → sp [.ref a] H (fun v _ => v = .bl true) fun _ _ _ => False) ∧
    ∀ base : Heap, K.In base → base.Ns mainGlobals mg → (∀ p ∈ cs, TabB base mg p.1 p.2) → FnG l.prog w K mg base CX k fa fd [x] sp
theorem walk_ofGT {l : PySem.W.OpenLaw} {n k : Nat} {q : Program} {loose : List Str} {XP : (Str → Option Value) → Heap → Prop} {YP : World → Heap → Prop} {d : DefRec} {K : Params → PySem.W.Frag} {CX : World → CXT} {x : Str}
    (hn : l.most = some n) (hn2 : n ≤ sizeLine) (hdf : d.params.defaults = []) (hr : Room k callerA) (hY : ∀ (w : World) (h : Heap), YP w h → (K w.params).In h)
    (F : ∀ (w : World) (mg : Str → Option Value) (fa : Addr) (h : Heap), YP w h → (K w.params).In h → h.Ns mainGlobals mg → mg d.name = some (.ref fa) → LawAtG l w (K w.params) (CX w) k n x mg fa h)
    (hCX : ∀ (w : World) (H : Hp) (s : Shared) (e : Value) (s' : Shared), CX w [] H s (fun _ _ _ => False) e s' → False) :
    PySem.W.WalkO q loose XP YP l.row.toRowW d [] (fun f vs => PySem.call f vs) := by
  refine Att.attach_call hn hdf fun w s₀ s₁ mg mb fa o pm cd doc a vs ns G Y ho hd hcd hmg hobj hints hlen hg => ?_
  obtain ⟨fd, cs, sp, hT, b1, hsp, b2⟩ := F w mg fa _ Y (hY w _ Y) G.T.g hmg
  exact law_callGT (hY w _ Y) G.T.g G.T.b G.T.builtins G.T.nolimit hg (fun p hp => (hT p hp).1) (fun p hp => (hT p hp).2.1) (fun p hp => (hT p hp).2.2) G.T.bmain hobj hints (Nat.le_trans hlen hn2) hr b2 b1 (fun H hH hS => hsp H a ns hlen hH hS) fun H e s' => hCX w H s₁ e s'
end Rc

namespace Rc
open PySem PySem.Spec PyProof.Rows L2 RZ
def abcS : Str := "abcdefghijklmnopqrstuvwxyz"
theorem abcS_len : abcS.length = 26 := by decide +kernel
theorem abcS_abc : abcS.cps.toList = abc := letters_abc
theorem nodup_le {α : Type} [DecidableEq α] : ∀ (l zs : List α), l.Nodup → (∀ x ∈ l, x ∈ zs) → l.length ≤ zs.length
  | [], _, _, _ => Nat.zero_le _
  | a :: r, zs, nd, h => by
    have hn := List.nodup_cons.mp nd
    have ha : a ∈ zs := h a List.mem_cons_self
    have ih := nodup_le r (zs.erase a) hn.2 fun x hx => by
      have ne : x ≠ a := fun e => hn.1 (e ▸ hx)
      exact (List.mem_erase_of_ne ne).mpr (h x (List.mem_cons_of_mem _ hx))
    rw [List.length_erase_of_mem ha] at ih
    have : 0 < zs.length := List.length_pos_of_mem ha
    rw [List.length_cons]
    omega
def oneS (c : Nat) : Str := ⟨#[c]⟩
theorem oneS_name {c : Nat} (h : c ∈ abc) : nameT (oneS c) = true := by
  have e1 : (oneS c).length = 1 := rfl
  have e2 : (oneS c).cps.toList = [c] := rfl
  unfold nameT
  rw [e1, e2]
  simp [h]
theorem abc_nodup : (abc.map oneS).Nodup := by decide +kernel
/-- some letter is not among thirteen names -/
theorem free_letter {zs : List Str} (h : zs.length ≤ 13) : (abc.filter fun c => !decide (oneS c ∈ zs)) ≠ [] := fun e => by
  have hall : ∀ x ∈ abc.map oneS, x ∈ zs := fun x hx => by
    obtain ⟨c, hc, rfl⟩ := List.mem_map.mp hx
    by_cases hz : oneS c ∈ zs
    · exact hz
    · have hm : c ∈ abc.filter fun c => !decide (oneS c ∈ zs) := List.mem_filter.mpr ⟨hc, by simp [hz]⟩
      rw [e] at hm
      cases hm
  have := nodup_le _ _ abc_nodup hall
  rw [List.length_map] at this
  have e26 : abc.length = 26 := by decide
  omega
theorem nameT_of {z : Str} (h1 : 1 ≤ z.length) (h2 : z.length ≤ 8) (h3 : ∀ c ∈ z.cps.toList, c ∈ abc) : nameT z = true := by
  unfold nameT
  rw [decide_eq_true h1, decide_eq_true h2]
  simp only [Bool.true_and, List.all_eq_true, decide_eq_true_eq]
  exact h3
def wordsL : List Str := ["person", "persons", "pay", "clear", "settle", "put", "give", "yes"]
theorem words_ok : ∀ z ∈ wordsL, nameT z = true := by decide +kernel
section
variable {P : Program} {w : World} {K : PySem.W.Frag} {mg : Str → Option Value} {base : Heap}
/-! ### _law_name -/
abbrev sLNm : Stmt := topS 52
abbrev nLNm : List Str := ["_law_pot_here", "_law_used", "_law_letters", "_law_name_here", "_law_k", "_law_letter"]
theorem scLNm : FnScope nLNm ["_law_pot_here", "_law_used"] (defScope sLNm) := ⟨rfl, rfl, rfl, by decide +kernel, rfl, by decide +kernel, by decide +kernel⟩
def spLNm : Sp := fun vs H Q _ => ∃ p u zs, vs = [.ref p, .ref u] ∧ Pot H p ∧ u ≠ p ∧ H u = some (.lst (List.map V.str zs)) ∧ zs.length ≤ 13 ∧ ∀ z H', nameT z = true → z ∉ zs → Pot H' p → But p H H' → Q (.str z) H'
theorem ok_lnm {f fT : Addr} {fd fdT : FuncData} (F : Fun K "_law_name" "_law_name" sLNm f fd) (B : Blt mg) (B2 : Blt2 mg) (T : HasTake P w K mg base fT fdT) : FnOk P w K mg base CX0 2 f fd ["_law_pot_here", "_law_used"] spLNm := by
  refine F.ok scLNm (fun vs H Q E h => ?_) (fun cdv Ar outer s H vs Q E hr h => ?_)
  · obtain ⟨_, _, _, rfl, _⟩ := h
    rfl
  · obtain ⟨p, u, zs, rfl, hp, up, hu, hz, q⟩ := h
    refine ⟨_, pss_cons (ps_set (i := 2) scLNm.nd rfl (.inr rfl) pe_str)
      (pss_cons (ps_set (i := 3) scLNm.nd rfl (.inl rfl) (pe_join pe_str
        (pe_lc (own := [("_law_k", 4)]) (g := gName 4) (tt := tYes) rfl scLNm.nd (pi_range1 (by rfl) B2.range (pa_cons (pe_op op_add pe_int (pe_call T.ok hr (by rfl) T.g T.kp T.b .nil pass0 (pa_cons (pv 0) (pa_cons pe_int pa_nil)))) pa_nil))
          (blkOk_by (N := nLNm) (sc := defScope sLNm) (own := [("_law_k", 4)]) (by decide +kernel))
          (fun _ _ _ _ _ => pg_name (i := 4) scLNm.nd rfl (.inl rfl)) (fun _ _ _ _ _ => pts_nil)
          (fun _ _ _ _ _ => pe_ix ix_str (pv 2) (pe_call T.ok hr (by rfl) T.g T.kp T.b .nil pass0 (pa_cons (pv 0) (pa_cons pe_int pa_nil))) (fun _ _ => rfl)))))
      (C8.pss_cut (ps_if (pt_cmpR op_eq (pe_call T.ok hr (by rfl) T.g T.kp T.b .nil pass0 (pa_cons (pv 0) (pa_cons pe_int pa_nil))) pe_int (nomark _))
        (pss_one (ps_set (i := 3) scLNm.nd rfl (.inl rfl) (pe_ix ix_list (pe_lst (pa_cons pe_str (pa_cons pe_str (pa_cons pe_str (pa_cons pe_str (pa_cons pe_str (pa_cons pe_str (pa_cons pe_str (pa_cons pe_str pa_nil)))))))))
          (pe_call T.ok hr (by rfl) T.g T.kp T.b .nil pass0 (pa_cons (pv 0) (pa_cons pe_int pa_nil))) (fun _ _ => rfl)))) pss_nil)
      (pss_cons (ps_if (pt_cmpR op_in_seq (pv 3) (pv 1) (by rfl))
        (pss_one (ps_ret (pe_ix ix_list (pe_lc (own := [("_law_letter", 5)]) (g := gName 5) (tt := tTest (tOp (rIn K true) (tVar 5) (tVar 1))) (te := tVar 5) rfl scLNm.nd (pi_str (pv 2)) (blkOk_by (N := nLNm) (sc := defScope sLNm) (own := [("_law_letter", 5)]) (by decide +kernel))
          (fun _ _ _ _ _ => pg_name (i := 5) scLNm.nd rfl (.inl rfl)) (fun _ _ _ _ _ => pts_one (pt_cmpR op_notIn_seq (pv 5) (pv 1) (by rfl))) (fun _ _ _ _ _ => pv 5)) pe_int (fun _ _ => rfl)))) pss_nil)
      (pss_one (ps_ret (pv 3)))))), ?_⟩
    refine ⟨⟨_, rfl⟩, .ref p, rfl, p, 8, rfl, hp, litM _ (by decide) (by decide), fun d H1 d0 d1 hp1 hb1 => ⟨_, _, rfl, rfl, 1 + d, rfl, by omega, by omega, fun D nD => ?_⟩⟩
    have nDp : D ≠ p := by
      obtain ⟨x, y, e, _⟩ := hp1
      exact (ne_of_none e nD).symm
    refine lc_it walk_range (fun i H' => ∃ cs : List Nat, cs.length = i ∧ (∀ c ∈ cs, c ∈ abc) ∧ H' D = some (.lst (cs.map fun c => .str ⟨#[c]⟩)) ∧ Pot H' p ∧ But p H H')
      ⟨[], rfl, fun c hc => absurd hc List.not_mem_nil, upd_same, hp1.new nD, hb1.trans (But.new nD)⟩ (fun _ _ _ _ => trivial) (fun i x H2 H3 hi hP hY => ?_) (fun H2 hP => ?_)
    · obtain ⟨rfl, rfl⟩ := hY
      obtain ⟨cs, lc, hc, hD, hp2, hb2⟩ := hP
      refine ⟨rfl, .str abcS, rfl, .ref p, rfl, p, 26, rfl, hp2, litM _ (by decide) (by decide), fun e H4 e0 e1 hp4 hb4 => ?_⟩
      have el : abcS.cps.toList.length = 26 := abcS_len
      obtain ⟨c, p1, p2⟩ := pick (xs := abcS.cps.toList) e0 (by rw [el]; exact e1)
      refine ⟨abcS, e, c, rfl, rfl, small_line (by rw [abcS_len]; decide), p1, _, hb4 _ _ nDp hD, ?_, cs ++ [c], by rw [List.length_append, lc]; rfl, fun k hk => ?_, ?_, ?_, fun b o n eb => ?_⟩
      · rw [List.length_map, lc]
        exact small1000 (by omega)
      · rcases List.mem_append.mp hk with z | z
        · exact hc k z
        · rw [List.mem_singleton.mp z, ← abcS_abc]
          exact p2
      · rw [upd_same, List.map_append]
        rfl
      · obtain ⟨x, y, z, r⟩ := hp4
        exact ⟨x, y, by rw [upd_ne nDp.symm]; exact z, r⟩
      · have nb : b ≠ D := ne_of_none (hb1 b o n eb) nD
        rw [upd_ne nb]
        exact hb4 _ _ n (hb2 _ _ n eb)
    · obtain ⟨cs, lc, hc, hD, hp2, hb2⟩ := hP
      have ej := join_ones cs
      have nm : nameT (Txt.join "" (cs.map fun c => (⟨#[c]⟩ : Str))) = true := by
        have el : (Txt.join "" (cs.map fun c => (⟨#[c]⟩ : Str))).length = cs.length := by
          show (Txt.join "" (cs.map fun c => (⟨#[c]⟩ : Str))).cps.size = cs.length
          rw [← Array.length_toList, ej]
        refine nameT_of (by rw [el]; omega) (by rw [el]; omega) (by rw [ej]; exact hc)
      refine ⟨"", D, cs.map fun c => ⟨#[c]⟩, rfl, rfl, .inl (.inl (.inl (by rw [hD, List.map_map]; rfl))), ?_, ?_⟩
      · rw [lens_ones]
        show cs.length + _ * 0 ≤ _
        omega
      generalize Txt.join "" (cs.map fun c => (⟨#[c]⟩ : Str)) = z at nm
      refine ⟨fun σ' H' => ∃ z' y4 y5, σ' = [some (.ref p), some (.ref u), some (.str abcS), some (.str z'), y4, y5] ∧ nameT z' = true ∧ Pot H' p ∧ But p H H', ?_, ?_⟩
      · refine ⟨.ref p, rfl, p, 8, rfl, hp2, litM _ (by decide) (by decide), fun k H3 k0 k1 hp3 hb3 => ⟨rfl, _, rfl, ite2 (fun e => ?_) (fun e => ?_)⟩⟩
        · refine ⟨by show 8 ≤ sizeLine; decide, fun l nl => ?_⟩
          have nlp : l ≠ p := by
            obtain ⟨x, y, e, _⟩ := hp3
            exact (ne_of_none e nl).symm
          refine ⟨.ref p, rfl, p, 8, rfl, hp3.new nl, litM _ (by decide) (by decide), fun e H5 e0 e1 hp5 hb5 => ?_⟩
          obtain ⟨v, p1, p2⟩ := pick (xs := wordsL.map V.str) e0 e1
          refine ⟨l, _, e, v, rfl, rfl, .inl (.inl (hb5 _ _ nlp upd_same)), p1, ?_⟩
          obtain ⟨z', hz', rfl⟩ := List.mem_map.mp p2
          exact ⟨z', _, _, rfl, words_ok z' hz', hp5, hb2.trans (hb3.trans ((But.new nl).trans hb5))⟩
        · exact ⟨z, _, _, rfl, nm, hp3, hb2.trans hb3⟩
      · rintro σ' H' ⟨z', y4, y5, rfl, nm', hp', hb'⟩
        have hu' := hb' _ _ up hu
        refine ⟨.str z', rfl, .ref u, rfl, u, _, rfl, .inl (.inl (.inl hu')), rfl, flat_strs _, _, rfl, ?_⟩
        show if inV (.str z') (zs.map V.str) = true then _ else _
        rw [inV_strs]
        refine ite2 (fun e => ?_) (fun e => ?_)
        · refine ⟨.str abcS, rfl, abcS, rfl, fun D' nD' => ?_⟩
          refine lc_it walk_str (fun i H'' => Same H' H'' ∧ H'' D' = some (.lst (((abc.take i).filter fun c => !decide (oneS c ∈ zs)).map fun c => .str (oneS c)))) ⟨same_upd nD', upd_same⟩ (fun _ _ _ _ => trivial) (fun i x H3' H3 hi hP hY => ?_) (fun H3 hP => ?_)
          · obtain ⟨rfl, c, hc', rfl⟩ := hY
            have hc2 : abc[i]? = some c := by
              rw [← abcS_abc, Array.getElem?_toList]
              exact hc'
            refine ⟨rfl, _, rfl, .ref u, rfl, u, _, rfl, .inl (.inl (.inl (hP.1 _ _ hu'))), rfl, flat_strs _, _, rfl, ?_⟩
            have tk : abc.take (i + 1) = abc.take i ++ [c] := by
              rw [List.take_add_one, hc2]
              rfl
            show if (!inV (.str (oneS c)) (zs.map V.str)) = true then _ else _
            rw [inV_strs]
            refine ite2 (fun e' => ?_) (fun e' => ?_)
            · refine ⟨_, rfl, _, hP.2, ?_, fun b o eb => ?_, ?_⟩
              · rw [List.length_map]
                have h1 := List.length_filter_le (fun c => !decide (oneS c ∈ zs)) (abc.take i)
                have h2 : (abc.take i).length ≤ 26 := by
                  rw [List.length_take]
                  exact Nat.min_le_right _ _
                exact small1000 (by omega)
              · rw [upd_ne (ne_of_none eb nD')]
                exact hP.1 b o eb
              · rw [upd_same, tk, List.filter_append, List.map_append]
                simp only [List.filter_cons, e', if_true, List.filter_nil, List.map_cons, List.map_nil]
                rfl
            · refine ⟨hP.1, ?_⟩
              rw [hP.2, tk, List.filter_append]
              simp only [List.filter_cons, e', List.filter_nil, Bool.false_eq_true, if_false, List.append_nil]
          · have esz : abc.take abcS.cps.size = abc := List.take_of_length_le (by decide +kernel)
            rw [esz] at hP
            have ne := free_letter hz
            cases hl : (abc.filter fun c => !decide (oneS c ∈ zs)) with
            | nil => exact absurd hl ne
            | cons c r =>
              have hm : c ∈ abc.filter fun c => !decide (oneS c ∈ zs) := by
                rw [hl]
                exact List.mem_cons_self
              obtain ⟨m1, m2⟩ := List.mem_filter.mp hm
              rw [hl] at hP
              refine ⟨D', _, 0, .str (oneS c), rfl, rfl, .inl (.inl hP.2), atI_nat (j := 0) rfl, ?_⟩
              exact q _ _ (oneS_name m1) (by simpa using m2) (hp'.same hP.1) (hb'.trans (same_but hP.1))
        · exact ⟨_, rfl, q z' H' nm' (fun c => e (decide_eq_true c)) hp' hb'⟩
end
end Rc

namespace Rc
open PySem PySem.Spec PyProof.Rows L2 RZ
section
variable {P : Program} {w : World} {K : PySem.W.Frag} {mg : Str → Option Value} {base : Heap}
/-! ### _law_names -/
abbrev sLNms : Stmt := topS 53
theorem scLNms : FnScope ["_law_pot_here", "_law_many", "_law_found", "_law_k"] ["_law_pot_here", "_law_many"] (defScope sLNms) := ⟨rfl, rfl, rfl, by decide +kernel, rfl, by decide +kernel, by decide +kernel⟩
def spLNms : Sp := fun vs H Q _ => ∃ (p : Addr) (m : Nat), vs = [.ref p, .int (m : Nat)] ∧ Pot H p ∧ m ≤ 13 ∧ ∀ r zs H', H r = none → r ≠ p → H' r = some (.lst (List.map V.str zs)) → zs.length = m → zs.Nodup → (∀ z ∈ zs, nameT z = true) → Pot H' p → But p H H' → Q (.ref r) H'
theorem ok_lnms {f fN : Addr} {fd fdN : FuncData} (F : Fun K "_law_names" "_law_names" sLNms f fd) (B2 : Blt2 mg) (N : Has P w K mg base 2 "_law_name" ["_law_pot_here", "_law_used"] spLNm fN fdN) :
    FnOk P w K mg base CX0 3 f fd ["_law_pot_here", "_law_many"] spLNms := by
  refine F.ok scLNms (fun vs H Q E h => ?_) (fun cdv Ar outer s H vs Q E hr h => ?_)
  · obtain ⟨_, _, rfl, _⟩ := h
    rfl
  · obtain ⟨p, m, rfl, hp, hm, q⟩ := h
    refine ⟨_, pss_cons (ps_set (i := 2) scLNms.nd rfl (.inl rfl) (pe_lst pa_nil))
      (pss_cons (ps_for PassesOwn.never rfl (pi_range1 (by rfl) B2.range (pa_cons (pv 1) pa_nil)) (pg_name (i := 3) scLNms.nd rfl (.inl rfl))
        (pss_one (ps_expr (pe_bm PySem.F.plainAttrs_list PySem.F.slot_list_append PySem.F.type_list_append mt_append (pv 2) (pa_cons (pe_call N.ok hr (by rfl) N.g N.kp N.b .nil pass0 (pa_cons (pv 0) (pa_cons (pv 2) pa_nil))) pa_nil)))))
      (pss_one (ps_ret (pv 2)))), ?_⟩
    refine ⟨Nat.zero_le _, fun r nr => ?_⟩
    have rp : r ≠ p := by
      obtain ⟨x, y, e, _⟩ := hp
      exact (ne_of_none e nr).symm
    refine ⟨_, rfl, _, rfl, by omega, by omega, ?_⟩
    refine for_it walk_range (fun i σ H' => ∃ zs y3, σ = [some (.ref p), some (.int (m : Nat)), some (.ref r), y3] ∧ H' r = some (.lst (List.map V.str zs)) ∧ zs.length = i ∧ zs.Nodup ∧ (∀ z ∈ zs, nameT z = true) ∧ Pot H' p ∧ But p H H')
      ⟨[], _, rfl, upd_same, rfl, List.nodup_nil, fun z hz => absurd hz List.not_mem_nil, hp.new nr, But.new nr⟩ (fun _ _ _ _ _ => trivial) (fun i x σ H1' H1 hi hP hY => ?_) (fun σ H1 hP => ?_)
    · obtain ⟨rfl, rfl⟩ := hY
      obtain ⟨zs, y3, rfl, hr1, lz, nd, nm, hp1, hb1⟩ := hP
      have hi' : i < m := by simpa using hi
      refine ⟨.ref r, rfl, .inl ⟨rfl, _, .inl (.inl hr1)⟩, .ref p, rfl, .ref r, rfl, p, r, zs, rfl, hp1, rp, hr1, by omega, fun z H2 nz nin hp2 hb2 => ?_⟩
      refine ⟨r, _, _, rfl, rfl, hb2 _ _ rp hr1, by rw [List.length_map]; exact small1000 (by omega), ?_⟩
      refine ⟨zs ++ [z], _, rfl, by rw [upd_same, List.map_append]; rfl, by rw [List.length_append, lz]; rfl, ?_, fun y hy => ?_, ?_, fun b o n e => ?_⟩
      · rw [List.nodup_append]
        refine ⟨nd, by simp, fun a ha b hb e => ?_⟩
        rw [List.mem_singleton.mp hb] at e
        exact nin (e ▸ ha)
      · rcases List.mem_append.mp hy with h | h
        · exact nm y h
        · rw [List.mem_singleton.mp h]
          exact nz
      · obtain ⟨x, y, e, rr⟩ := hp2
        exact ⟨x, y, by rw [upd_ne rp.symm]; exact e, rr⟩
      · rw [upd_ne (ne_of_none e nr)]
        exact hb2 _ _ n (hb1 _ _ n e)
    · obtain ⟨zs, y3, rfl, hr1, lz, nd, nm, hp1, hb1⟩ := hP
      exact ⟨.ref r, rfl, q r zs H1 nr rp hr1 (by simpa using lz) nd nm hp1 hb1⟩
end
end Rc

namespace Rc
open PySem PySem.Spec PyProof.Rows L2 RZ
section
variable {P : Program} {w : World} {K : PySem.W.Frag} {mg : Str → Option Value} {base : Heap}
/-! ### _law_amount -/
abbrev sLAm : Stmt := topS 55
theorem scLAm : FnScope ["_law_pot_here", "_law_size", "_law_kind"] ["_law_pot_here", "_law_size"] (defScope sLAm) := ⟨rfl, rfl, rfl, by decide +kernel, rfl, by decide +kernel, by decide +kernel⟩
def Amt (n : Int) : Prop := 1 ≤ n ∧ n ≤ 10 ^ 58
def spLAm : Sp := fun vs H Q _ => ∃ (p : Addr) (s : Int), vs = [.ref p, .int s] ∧ (s = 0 ∨ s = 1) ∧ Pot H p ∧ ∀ n H', Amt n → Pot H' p → But p H H' → Q (.int n) H'
theorem ok_lam {f fT : Addr} {fd fdT : FuncData} (F : Fun K "_law_amount" "_law_amount" sLAm f fd) (T : HasTake P w K mg base fT fdT) : FnOk P w K mg base CX0 2 f fd ["_law_pot_here", "_law_size"] spLAm := by
  refine F.ok scLAm (fun vs H Q E h => ?_) (fun cdv Ar outer s H vs Q E hr h => ?_)
  · obtain ⟨_, _, rfl, _⟩ := h
    rfl
  · obtain ⟨p, sz, rfl, hsz, hp, q⟩ := h
    refine ⟨_, pss_cons (ps_set (i := 2) scLAm.nd rfl (.inl rfl) (pe_call T.ok hr (by rfl) T.g T.kp T.b .nil pass0 (pa_cons (pv 0) (pa_cons pe_int pa_nil))))
      (pss_one (ps_ret (pe_op op_add pe_int (pe_call T.ok hr (by rfl) T.g T.kp T.b .nil pass0 (pa_cons (pv 0) (pa_cons
        (pe_ix ix_list (pe_ix ix_list (pe_lst (pa_cons (pe_lst (pa_cons pe_int (pa_cons pe_int (pa_cons pe_int (pa_cons pe_int pa_nil))))) (pa_cons (pe_lst (pa_cons pe_int (pa_cons pe_int (pa_cons pe_int (pa_cons (pe_op op_pow pe_int pe_int) pa_nil))))) pa_nil))) (pv 1) (fun _ _ => rfl)) (pv 2) (fun _ _ => rfl)) pa_nil)))))), ?_⟩
    refine ⟨.ref p, rfl, p, 4, rfl, hp, litM _ (by decide) (by decide), fun d H1 d0 d1 hp1 hb1 => ?_⟩
    refine ⟨.ref p, rfl, by show 4 ≤ sizeLine; decide, fun l1 n1 => ⟨_, _, rfl, rfl, ⟨by decide, by decide, by decide⟩, by show 4 ≤ sizeLine; decide, fun l2 n2 => ⟨by show 2 ≤ sizeLine; decide, fun l3 n3 => ?_⟩⟩⟩
    have s3 := (same_upd (o := .lst [V.int 1, V.int 3, V.int 9, V.int 9]) n1).trans ((same_upd (o := .lst [V.int 1, V.int 9, V.int 1000, V.int (10 ^ (58 : Int).toNat)]) n2).trans (same_upd (o := .lst [V.ref l1, V.ref l2]) n3))
    have fin : ∀ m : Int, 0 < m → m ≤ 10 ^ 58 → ∃ (p' : Addr) (m' : Int), [V.ref p, V.int m] = [.ref p', .int m'] ∧ Pot (upd (upd (upd H1 l1 (.lst [V.int 1, V.int 3, V.int 9, V.int 9])) l2 (.lst [V.int 1, V.int 9, V.int 1000, V.int (10 ^ (58 : Int).toNat)])) l3 (.lst [V.ref l1, V.ref l2])) p' ∧ LitM m' ∧
        ∀ t H4, 0 ≤ t → t < m' → Pot H4 p' → But p' (upd (upd (upd H1 l1 (.lst [V.int 1, V.int 3, V.int 9, V.int 9])) l2 (.lst [V.int 1, V.int 9, V.int 1000, V.int (10 ^ (58 : Int).toNat)])) l3 (.lst [V.ref l1, V.ref l2])) H4 → ∃ x y : Int, V.int 1 = .int x ∧ V.int t = .int y ∧ Q (.int (x + y)) H4 := fun m m0 m1 => by
      have m2 : (10 : Int) ^ 58 < 2 ^ 250 := by decide
      exact ⟨p, m, rfl, hp1.same s3, litM _ m0 (by omega), fun t H4 t0 t1 hp4 hb4 => ⟨1, t, rfl, rfl, q _ _ ⟨by omega, by omega⟩ hp4 (hb1.trans ((same_but s3).trans hb4))⟩⟩
    rcases hsz with rfl | rfl
    · obtain ⟨c, e1, e2⟩ := pick (xs := [V.int 1, V.int 3, V.int 9, V.int 9]) d0 d1
      refine ⟨.int 0, rfl, l3, _, 0, .ref l1, rfl, rfl, .inl (.inl upd_same), rfl, .int d, rfl, l1, _, d, c, rfl, rfl, .inl (.inl (same_upd n3 _ _ (same_upd n2 _ _ upd_same))), e1, ?_⟩
      have ec : ∃ m : Int, c = .int m ∧ 0 < m ∧ m ≤ 10 ^ 58 := by
        simp only [List.mem_cons, List.not_mem_nil, or_false] at e2
        rcases e2 with e | e | e | e <;> exact ⟨_, e, by decide, by decide⟩
      obtain ⟨m, rfl, m0, m1⟩ := ec
      exact fin m m0 m1
    · obtain ⟨c, e1, e2⟩ := pick (xs := [V.int 1, V.int 9, V.int 1000, V.int (10 ^ (58 : Int).toNat)]) d0 d1
      refine ⟨.int 1, rfl, l3, _, 1, .ref l2, rfl, rfl, .inl (.inl upd_same), rfl, .int d, rfl, l2, _, d, c, rfl, rfl, .inl (.inl (same_upd n3 _ _ upd_same)), e1, ?_⟩
      have ec : ∃ m : Int, c = .int m ∧ 0 < m ∧ m ≤ 10 ^ 58 := by
        simp only [List.mem_cons, List.not_mem_nil, or_false] at e2
        rcases e2 with e | e | e | e <;> exact ⟨_, e, by decide, by decide⟩
      obtain ⟨m, rfl, m0, m1⟩ := ec
      exact fin m m0 m1
end
end Rc

namespace Rc
open PySem PySem.Spec PyProof.Rows L2 RZ
/-! ### dicts by names -/
def dct (zs : List Str) (vs : List V) : List (Key × V) := (zs.zip vs).map fun p => (Sum.inr p.1, p.2)
theorem dct_cons (z : Str) (zs : List Str) (v : V) (vs : List V) : dct (z :: zs) (v :: vs) = (Sum.inr z, v) :: dct zs vs := rfl
theorem dct_mem {zs : List Str} {vs : List V} {kv : Key × V} (h : kv ∈ dct zs vs) : ∃ z ∈ zs, kv.1 = Sum.inr z := by
  unfold dct at h
  obtain ⟨p, hp, rfl⟩ := List.mem_map.mp h
  exact ⟨p.1, (List.of_mem_zip hp).1, rfl⟩
theorem dct_val : ∀ {zs : List Str} {vs : List V} {j : Nat} {z : Str} {v : V}, zs.Nodup → zs[j]? = some z → vs[j]? = some v → valV (dct zs vs) (Sum.inr z : Key) = some v
  | [], _, _, _, _, _, h, _ => by simp at h
  | _ :: _, [], _, _, _, _, _, h => by simp at h
  | y :: zs, u :: vs, 0, z, v, nd, h1, h2 => by
    simp at h1 h2
    subst h1 h2
    rw [dct_cons]
    exact valV_pos rfl
  | y :: zs, u :: vs, j + 1, z, v, nd, h1, h2 => by
    have hn := List.nodup_cons.mp nd
    have h1' : zs[j]? = some z := by simpa using h1
    rw [dct_cons, valV_neg (fun e => hn.1 (by
      have e' : y = z := Sum.inr.inj e
      rw [e']
      exact List.mem_of_getElem? h1'))]
    exact dct_val hn.2 h1' (by simpa using h2)
theorem dct_nokey {zs : List Str} {vs : List V} {z : Str} (h : z ∉ zs) : ∀ kv ∈ dct zs vs, ¬ kv.1 = (Sum.inr z : Key) := fun kv hk e => by
  obtain ⟨y, hy, e'⟩ := dct_mem hk
  rw [e'] at e
  exact h (Sum.inr.inj e ▸ hy)
theorem map_nokey {kvs : List (Key × V)} {k : Key} {v : V} (h : ∀ kv ∈ kvs, ¬ kv.1 = k) : kvs.map (fun kv => if kv.1 = k then (kv.1, v) else kv) = kvs := by
  induction kvs with
  | nil => rfl
  | cons a r ih =>
    rw [List.map_cons, if_neg (h a List.mem_cons_self), ih fun kv hk => h kv (List.mem_cons_of_mem _ hk)]
theorem dct_map : ∀ {zs : List Str} {vs : List V} {j : Nat} {z : Str} {v : V}, zs.Nodup → zs[j]? = some z → (dct zs vs).map (fun kv => if kv.1 = (Sum.inr z : Key) then (kv.1, v) else kv) = dct zs (vs.set j v)
  | [], _, _, _, _, _, h => by simp at h
  | y :: zs, [], _, _, _, _, _ => by simp [dct]
  | y :: zs, u :: vs, 0, z, v, nd, h1 => by
    simp at h1
    subst h1
    have hn := List.nodup_cons.mp nd
    rw [List.set_cons_zero, dct_cons, dct_cons, List.map_cons, if_pos rfl, map_nokey (dct_nokey hn.1)]
  | y :: zs, u :: vs, j + 1, z, v, nd, h1 => by
    have hn := List.nodup_cons.mp nd
    have h1' : zs[j]? = some z := by simpa using h1
    have ne : ¬ (Sum.inr y : Key) = Sum.inr z := fun e => hn.1 (by
      have e' : y = z := Sum.inr.inj e
      rw [e']
      exact List.mem_of_getElem? h1')
    rw [List.set_cons_succ, dct_cons, dct_cons, List.map_cons, if_neg ne, dct_map hn.2 h1']
theorem dct_put {zs : List Str} {vs : List V} {j : Nat} {z : Str} {v : V} (nd : zs.Nodup) (h1 : zs[j]? = some z) (h2 : j < vs.length) : putK (dct zs vs) (Sum.inr z) v = dct zs (vs.set j v) := by
  unfold putK
  have hv := dct_val nd h1 (List.getElem?_eq_getElem h2)
  rw [valV_any, hv, if_pos (show (some vs[j]).isSome = true from rfl)]
  exact dct_map nd h1
theorem put_new {kvs : List (Key × V)} {k : Key} {v : V} (h : ∀ kv ∈ kvs, ¬ kv.1 = k) : putK kvs k v = kvs ++ [(k, v)] := by
  unfold putK
  rw [if_neg]
  rw [List.any_eq_true]
  rintro ⟨kv, hk, e⟩
  exact h kv hk (of_decide_eq_true e)
theorem merge_dct : ∀ (zs : List Str) (vs : List V) (acc : List (Key × V)), zs.Nodup → (∀ kv ∈ acc, ∀ z ∈ zs, ¬ kv.1 = (Sum.inr z : Key)) → mergeK acc (dct zs vs) = acc ++ dct zs vs
  | [], _, acc, _, _ => by simp [dct, mergeK]
  | _ :: _, [], acc, _, _ => by simp [dct, mergeK]
  | z :: zs, v :: vs, acc, nd, h => by
    have hn := List.nodup_cons.mp nd
    rw [dct_cons]
    show mergeK (putK acc (Sum.inr z) v) (dct zs vs) = acc ++ (Sum.inr z, v) :: dct zs vs
    rw [put_new fun kv hk => h kv hk z List.mem_cons_self, merge_dct zs vs _ hn.2 fun kv hk y hy => ?_]
    · rw [List.append_assoc]
      rfl
    · rcases List.mem_append.mp hk with hk | hk
      · exact h kv hk y (List.mem_cons_of_mem _ hy)
      · rw [List.mem_singleton.mp hk]
        intro e
        exact hn.1 (Sum.inr.inj e ▸ hy)
theorem merge_new {zs : List Str} {vs : List V} (nd : zs.Nodup) : mergeK [] (dct zs vs) = dct zs vs := by
  rw [merge_dct zs vs [] nd fun kv hk => absurd hk List.not_mem_nil]
  rfl
theorem dct_len {zs : List Str} {vs : List V} (h : vs.length = zs.length) : (dct zs vs).length = zs.length := by
  unfold dct
  rw [List.length_map, List.length_zip, h, Nat.min_self]
/-! ### the law's model -/
structure MdA where
  m : Addr
  lo : Addr
  dg : Addr
  df : Addr
  dn : Addr
  rs : List Addr
structure Md where
  given : List Int
  fallen : List Int
  notes : List (List (Str × Int))
def MdA.Has (a : MdA) (b : Addr) : Prop := b = a.m ∨ b = a.lo ∨ b = a.dg ∨ b = a.df ∨ b = a.dn ∨ b ∈ a.rs
def keysM : List Str := ["order", "given", "fallen", "notes"]
theorem keysM_nd : keysM.Nodup := by decide +kernel
def MdA.main (a : MdA) : List (Key × V) := dct keysM [.ref a.lo, .ref a.dg, .ref a.df, .ref a.dn]
structure ModelAt (K : PySem.W.Frag) (H : Hp) (zs : List Str) (a : MdA) (D : Md) : Prop where
  hm : H a.m = some (.dK a.main)
  ho : H a.lo = some (.lst (zs.map V.str))
  hg : H a.dg = some (.dK (dct zs (D.given.map V.int)))
  hf : H a.df = some (.dK (dct zs (D.fallen.map V.int)))
  hn : H a.dn = some (.dK (dct zs (a.rs.map V.ref)))
  rows : ∀ (i : Nat) (r : Addr) (l : List (Str × Int)), a.rs[i]? = some r → D.notes[i]? = some l → ∃ xs, H r = some (.lst xs) ∧ DtAll K H xs (notesD l)
  nd : a.rs.Nodup
  olo : a.lo ∉ a.rs
  ogf : a.dg ≠ a.df
  ogn : a.dg ≠ a.dn
  ogm : a.dg ≠ a.m
  omn : a.m ≠ a.dn
  zn : zs.Nodup
  lg : D.given.length = zs.length
  lf : D.fallen.length = zs.length
  ln : D.notes.length = zs.length
  lr : a.rs.length = zs.length
theorem ModelAt.keep {K : PySem.W.Frag} {H H' : Hp} {zs : List Str} {a : MdA} {D : Md} (h : ModelAt K H zs a D) (k : ∀ b o, a.Has b → H b = some o → H' b = some o) (kt : KT H H') : ModelAt K H' zs a D where
  hm := k _ _ (.inl rfl) h.hm
  ho := k _ _ (.inr (.inl rfl)) h.ho
  hg := k _ _ (.inr (.inr (.inl rfl))) h.hg
  hf := k _ _ (.inr (.inr (.inr (.inl rfl)))) h.hf
  hn := k _ _ (.inr (.inr (.inr (.inr (.inl rfl))))) h.hn
  rows := fun i r l e1 e2 => by
    obtain ⟨xs, e, d⟩ := h.rows i r l e1 e2
    exact ⟨xs, k _ _ (.inr (.inr (.inr (.inr (.inr (List.mem_of_getElem? e1)))))) e, DtAll.keepT kt _ (tup_notes l) d⟩
  nd := h.nd
  olo := h.olo
  ogf := h.ogf
  ogn := h.ogn
  ogm := h.ogm
  omn := h.omn
  zn := h.zn
  lg := h.lg
  lf := h.lf
  ln := h.ln
  lr := h.lr
theorem model_same {K : PySem.W.Frag} {H H' : Hp} {zs : List Str} {a : MdA} {D : Md} (h : ModelAt K H zs a D) (s : Same H H') : ModelAt K H' zs a D := h.keep (fun b o _ e => s b o e) (kt_same s)
theorem But.kt {p : Addr} {H H' : Hp} (b : But p H H') (hp : Pot H p) : KT H H' := fun c o e t => b c o (fun z => by
  obtain ⟨x, y, e', _⟩ := hp
  rw [z, e'] at e
  cases e
  exact t) e
theorem model_but {K : PySem.W.Frag} {H H' : Hp} {zs : List Str} {a : MdA} {D : Md} {p : Addr} (h : ModelAt K H zs a D) (b : But p H H') (hp : Pot H p) (n : ¬ a.Has p) : ModelAt K H' zs a D :=
  h.keep (fun c o hc e => b c o (fun z => n (z ▸ hc)) e) (b.kt hp)
def zeros (n : Nat) : List Int := List.replicate n 0
def newMd (n : Nat) : Md := ⟨zeros n, zeros n, List.replicate n []⟩
/-- pairs that a comprehension makes -/
def PairsAt (K : PySem.W.Frag) (H : Hp) (ps : List Addr) (kvs : List (Key × V)) : Prop := Paired (fun p kv => SqT K H p [kV kv.1, kv.2]) ps kvs
theorem Paired.snoc {α β : Type} {R : α → β → Prop} : ∀ {l : List α} {m : List β} {a : α} {b : β}, Paired R l m → R a b → Paired R (l ++ [a]) (m ++ [b])
  | _, _, _, _, .nil, h => .cons h .nil
  | _, _, _, _, .cons r t, h => .cons r (Paired.snoc t h)
theorem pairs_kt {K : PySem.W.Frag} {H H' : Hp} (k : KT H H') : ∀ {ps : List Addr} {kvs : List (Key × V)}, PairsAt K H ps kvs → PairsAt K H' ps kvs
  | _, _, .nil => .nil
  | _, _, .cons r t => .cons (by
      rcases r with (r | ⟨o, r⟩) | r
      · exact .inl (.inl (k _ _ r trivial))
      · exact .inl (.inr ⟨o, k _ _ r trivial⟩)
      · exact .inr r) (pairs_kt k t)
theorem dct_snoc {zs : List Str} {vs : List V} {z : Str} {v : V} (h : vs.length = zs.length) : dct (zs ++ [z]) (vs ++ [v]) = dct zs vs ++ [(Sum.inr z, v)] := by
  unfold dct
  rw [List.zip_append h.symm, List.map_append]
  rfl
theorem take_succ {α : Type} {l : List α} {i : Nat} (h : i < l.length) : l.take (i + 1) = l.take i ++ [l[i]] := by
  rw [List.take_add_one, List.getElem?_eq_getElem h]
  rfl
theorem pairs_step {K : PySem.W.Frag} {H0 H' : Hp} {D t : Addr} {ps : List Addr} {zs : List Str} {vs : List V} {z : Str} {v : V} (nD : H0 D = none) (s : Same H0 H') (hD : H' D = some (.lst (ps.map V.ref))) (hp : PairsAt K H' ps (dct zs vs)) (l : vs.length = zs.length) (nt : H' t = none) :
    Same H0 (upd (upd H' t (.tup [.str z, v])) D (.lst (ps.map V.ref ++ [.ref t]))) ∧ upd (upd H' t (.tup [.str z, v])) D (.lst (ps.map V.ref ++ [.ref t])) D = some (.lst ((ps ++ [t]).map V.ref)) ∧
      PairsAt K (upd (upd H' t (.tup [.str z, v])) D (.lst (ps.map V.ref ++ [.ref t]))) (ps ++ [t]) (dct (zs ++ [z]) (vs ++ [v])) ∧ KT H' (upd (upd H' t (.tup [.str z, v])) D (.lst (ps.map V.ref ++ [.ref t]))) := by
  have tD : t ≠ D := (ne_of_none hD nt).symm
  have kt : KT H' (upd (upd H' t (.tup [.str z, v])) D (.lst (ps.map V.ref ++ [.ref t]))) := (kt_same (same_upd nt)).trans (kt_upd (o := .lst (ps.map V.ref)) (by rw [upd_ne tD.symm]; exact hD) fun z => z)
  refine ⟨fun b o e => ?_, by rw [upd_same, List.map_append]; rfl, ?_, kt⟩
  · rw [upd_ne (ne_of_none e nD), upd_ne (ne_of_none (s b o e) nt)]
    exact s b o e
  · rw [dct_snoc l]
    refine Paired.snoc (pairs_kt kt hp) (.inl (.inl ?_))
    rw [upd_ne tD, upd_same]
    rfl
theorem Paired.len {α β : Type} {R : α → β → Prop} : ∀ {l : List α} {m : List β}, Paired R l m → l.length = m.length
  | _, _, .nil => rfl
  | _, _, .cons _ t => by rw [List.length_cons, List.length_cons, Paired.len t]
section
variable {P : Program} {w : World} {K : PySem.W.Frag} {mg : Str → Option Value} {base : Heap}
abbrev sLMd : Stmt := topS 56
abbrev nLMd : List Str := ["_law_names_here", "_law_name_here"]
theorem scLMd : FnScope nLMd ["_law_names_here"] (defScope sLMd) := ⟨rfl, rfl, rfl, by decide +kernel, rfl, by decide +kernel, by decide +kernel⟩
def spLMd (K : PySem.W.Frag) : Sp := fun vs H Q _ => ∃ (nl : Addr) (zs : List Str), vs = [.ref nl] ∧ H nl = some (.lst (zs.map V.str)) ∧ zs.Nodup ∧ zs.length ≤ 13 ∧ ∀ a H', Same H H' → (∀ b, MdA.Has a b → H b = none) → ModelAt K H' zs a (newMd zs.length) → Q (.ref a.m) H'
theorem ok_lmd {f : Addr} {fd : FuncData} (F : Fun K "_law_model" "_law_model" sLMd f fd) (B3 : Blt3 mg) : FnOk P w K mg base CX0 1 f fd ["_law_names_here"] (spLMd K) := by
  refine F.ok scLMd (fun vs H Q E h => ?_) (fun cdv Ar outer s H vs Q E hr h => ?_)
  · obtain ⟨_, _, rfl, _⟩ := h
    rfl
  · obtain ⟨nl, zs, rfl, hn, nd, lz, q⟩ := h
    refine ⟨_, pss_one (ps_ret (pe_disp (pps_cons pe_str (pe_callTy call_list_of (by rfl) B3.list (by decide +kernel) (pa_cons (pv 0) pa_nil))
      (pps_cons pe_str (pe_callTy (call_dictP rfl) (by rfl) B3.dict (by decide +kernel) (pa_cons (pe_lc (own := [("_law_name_here", 1)]) (g := gName 1) (tt := tYes) rfl scLMd.nd (pi_list (pv 0)) (blkOk_by (N := nLMd) (sc := defScope sLMd) (own := [("_law_name_here", 1)]) (by decide +kernel))
          (fun _ _ _ _ _ => pg_name (i := 1) scLMd.nd rfl (.inl rfl) (hf := .inr rfl)) (fun _ _ _ _ _ => pts_nil) (fun _ _ _ _ _ => pe_tup (pa_cons (pv 1) (pa_cons pe_int pa_nil)))) pa_nil))
      (pps_cons pe_str (pe_callTy (call_dictP rfl) (by rfl) B3.dict (by decide +kernel) (pa_cons (pe_lc (own := [("_law_name_here", 1)]) (g := gName 1) (tt := tYes) rfl scLMd.nd (pi_list (pv 0)) (blkOk_by (N := nLMd) (sc := defScope sLMd) (own := [("_law_name_here", 1)]) (by decide +kernel))
          (fun _ _ _ _ _ => pg_name (i := 1) scLMd.nd rfl (.inl rfl) (hf := .inr rfl)) (fun _ _ _ _ _ => pts_nil) (fun _ _ _ _ _ => pe_tup (pa_cons (pv 1) (pa_cons pe_int pa_nil)))) pa_nil))
      (pps_cons pe_str (pe_callTy (call_dictP rfl) (by rfl) B3.dict (by decide +kernel) (pa_cons (pe_lc (own := [("_law_name_here", 1)]) (g := gName 1) (tt := tYes) rfl scLMd.nd (pi_list (pv 0)) (blkOk_by (N := nLMd) (sc := defScope sLMd) (own := [("_law_name_here", 1)]) (by decide +kernel))
          (fun _ _ _ _ _ => pg_name (i := 1) scLMd.nd rfl (.inl rfl) (hf := .inr rfl)) (fun _ _ _ _ _ => pts_nil) (fun _ _ _ _ _ => pe_tup (pa_cons (pv 1) (pa_cons (pe_lst pa_nil) pa_nil)))) pa_nil)) pps_nil)))) (by rfl) (by rfl) (fun z => by cases z) (by show 4 ≤ 15; decide))), ?_⟩
    intro m nm
    have s1 := same_upd (o := .dK []) nm
    have sq : SqL K H nl (zs.map V.str) := .inl (.inl hn)
    refine ⟨.ref nl, rfl, nl, _, rfl, .inl (s1.seq sq), fun lo nlo => ?_⟩
    have s2 := s1.trans (same_upd (o := .lst (zs.map V.str)) nlo)
    generalize hH2 : upd (upd H m (.dK [])) lo (.lst (zs.map V.str)) = H2 at s2
    have hm2 : H2 m = some (.dK []) := by
      rw [← hH2, upd_ne (by intro e; rw [← e, upd_same] at nlo; cases nlo), upd_same]
    have hl2 : H2 lo = some (.lst (zs.map V.str)) := by
      rw [← hH2, upd_same]
    have nloH : H lo = none := s1.free nlo
    have step0 : ∀ (H0 H' : Hp) (D : Addr) (ps : List Addr) (i : Nat) (hi : i < zs.length), H0 D = none → Same H0 H' → H' D = some (.lst (ps.map V.ref)) → PairsAt K H' ps (dct (zs.take i) ((zeros i).map V.int)) → ∀ t, H' t = none →
        Same H0 (upd (upd H' t (.tup [.str zs[i], .int 0])) D (.lst (ps.map V.ref ++ [.ref t]))) ∧ ∃ ps', upd (upd H' t (.tup [.str zs[i], .int 0])) D (.lst (ps.map V.ref ++ [.ref t])) D = some (.lst (List.map V.ref ps')) ∧
          PairsAt K (upd (upd H' t (.tup [.str zs[i], .int 0])) D (.lst (ps.map V.ref ++ [.ref t]))) ps' (dct (zs.take (i + 1)) ((zeros (i + 1)).map V.int)) := fun H0 H' D ps i hi nD sm hD hp t nt => by
      obtain ⟨a1, a2, a3, _⟩ := pairs_step (z := zs[i]) (v := .int 0) nD sm hD hp (by unfold zeros; rw [List.length_map, List.length_replicate, List.length_take]; omega) nt
      refine ⟨a1, ps ++ [t], a2, ?_⟩
      rw [take_succ hi, show (zeros (i + 1)).map V.int = (zeros i).map V.int ++ [.int 0] by unfold zeros; rw [List.replicate_succ', List.map_append]; rfl]
      exact a3
    have full : zs.take zs.length = zs := List.take_length
    have lenz : (zs.map V.str).length = zs.length := List.length_map ..
    have smallP : ∀ {H' : Hp} {ps : List Addr} {i : Nat} {vs : List V}, i < zs.length → vs.length = i → PairsAt K H' ps (dct (zs.take i) vs) → (ps.map V.ref).length < sizeLine := fun {H' ps i vs} hi hv hp => by
      rw [List.length_map, Paired.len hp]
      unfold dct
      rw [List.length_map, List.length_zip]
      exact small1000 (by omega)
    have lenZ : ∀ i, ((zeros i).map V.int).length = i := fun i => by
      unfold zeros
      rw [List.length_map, List.length_replicate]
    have strAt : ∀ {i : Nat} {x : V} (hi : i < zs.length), (zs.map V.str)[i]? = some x → x = .str zs[i] := fun {i x} hi e => by
      rw [List.getElem?_map, List.getElem?_eq_getElem hi] at e
      exact (Option.some.inj e).symm
    -- 'given'
    refine ⟨.ref nl, rfl, nl, rfl, ⟨_, s2.seq sq⟩, fun D1 nD1 => ?_⟩
    refine lc_it (walk_list (K := K) (a := nl) (xs := zs.map V.str)) (fun i H' => Same H2 H' ∧ ∃ ps, H' D1 = some (.lst (List.map V.ref ps)) ∧ PairsAt K H' ps (dct (zs.take i) ((zeros i).map V.int))) ⟨same_upd nD1, [], upd_same, .nil⟩ (fun i H' _ hP => hP.1.seq (s2.seq sq))
      (fun i x H3' H3 hi hP hY => ?_) (fun H3 hP => ?_)
    · obtain ⟨rfl, hx⟩ := hY
      rw [lenz] at hi
      obtain ⟨sm, ps, hD, hp⟩ := hP
      cases strAt hi hx
      refine ⟨rfl, _, rfl, by show 2 ≤ sizeLine; decide, fun t nt => ⟨_, by rw [upd_ne (ne_of_none hD nt)]; exact hD, smallP hi (lenZ i) hp, ?_⟩⟩
      exact step0 H2 H3 D1 ps i hi nD1 sm hD hp t nt
    obtain ⟨s3, ps1, hD1, hp1⟩ := hP
    rw [lenz, full] at hp1
    refine ⟨D1, ps1, _, rfl, .inl (.inl hD1), hp1, fun dg ndg => ?_⟩
    rw [merge_new nd]
    have s4 := s3.trans (same_upd (o := .dK (dct zs ((zeros zs.length).map V.int))) ndg)
    generalize hH4 : upd H3 dg (.dK (dct zs ((zeros zs.length).map V.int))) = H4 at s4
    have hg4 : H4 dg = some (.dK (dct zs ((zeros zs.length).map V.int))) := by
      rw [← hH4, upd_same]
    have ndgH : H2 dg = none := s3.free ndg
    -- 'fallen'
    refine ⟨.ref nl, rfl, nl, rfl, ⟨_, s4.seq (s2.seq sq)⟩, fun D2 nD2 => ?_⟩
    refine lc_it (walk_list (K := K) (a := nl) (xs := zs.map V.str)) (fun i H' => Same H4 H' ∧ ∃ ps, H' D2 = some (.lst (List.map V.ref ps)) ∧ PairsAt K H' ps (dct (zs.take i) ((zeros i).map V.int))) ⟨same_upd nD2, [], upd_same, .nil⟩ (fun i H' _ hP => hP.1.seq (s4.seq (s2.seq sq)))
      (fun i x H5' H5 hi hP hY => ?_) (fun H5 hP => ?_)
    · obtain ⟨rfl, hx⟩ := hY
      rw [lenz] at hi
      obtain ⟨sm, ps, hD, hp⟩ := hP
      cases strAt hi hx
      refine ⟨rfl, _, rfl, by show 2 ≤ sizeLine; decide, fun t nt => ⟨_, by rw [upd_ne (ne_of_none hD nt)]; exact hD, smallP hi (lenZ i) hp, ?_⟩⟩
      exact step0 H4 H5 D2 ps i hi nD2 sm hD hp t nt
    obtain ⟨s5, ps2, hD2, hp2⟩ := hP
    rw [lenz, full] at hp2
    refine ⟨D2, ps2, _, rfl, .inl (.inl hD2), hp2, fun df ndf => ?_⟩
    rw [merge_new nd]
    have s6 := s5.trans (same_upd (o := .dK (dct zs ((zeros zs.length).map V.int))) ndf)
    generalize hH6 : upd H5 df (.dK (dct zs ((zeros zs.length).map V.int))) = H6 at s6
    have hf6 : H6 df = some (.dK (dct zs ((zeros zs.length).map V.int))) := by
      rw [← hH6, upd_same]
    have ndfH : H4 df = none := s5.free ndf
    -- 'notes'
    have s26 := s4.trans s6
    refine ⟨.ref nl, rfl, nl, rfl, ⟨_, s26.seq (s2.seq sq)⟩, fun D3 nD3 => ?_⟩
    refine lc_it (walk_list (K := K) (a := nl) (xs := zs.map V.str)) (fun i H' => Same H6 H' ∧ ∃ ps rs, H' D3 = some (.lst (List.map V.ref ps)) ∧ rs.length = i ∧ PairsAt K H' ps (dct (zs.take i) (List.map V.ref rs)) ∧ rs.Nodup ∧ (∀ r ∈ rs, H6 r = none ∧ r ≠ D3 ∧ H' r = some (.lst [])))
      ⟨same_upd nD3, [], [], upd_same, rfl, .nil, List.nodup_nil, fun r hr => absurd hr List.not_mem_nil⟩ (fun i H' _ hP => hP.1.seq (s26.seq (s2.seq sq))) (fun i x H7' H7 hi hP hY => ?_) (fun H7 hP => ?_)
    · obtain ⟨rfl, hx⟩ := hY
      rw [lenz] at hi
      obtain ⟨sm, ps, rs, hD, lrs, hp, nrs, hrs⟩ := hP
      cases strAt hi hx
      refine ⟨rfl, _, rfl, Nat.zero_le _, fun e ne => ⟨by show 2 ≤ sizeLine; decide, fun t nt => ?_⟩⟩
      have se := same_upd (o := .lst []) ne
      have hDe := se _ _ hD
      have eD : e ≠ D3 := (ne_of_none hD ne).symm
      have hpe := pairs_kt (kt_same se) hp
      refine ⟨_, by rw [upd_ne (ne_of_none hDe nt)]; exact hDe, smallP hi (by rw [List.length_map, lrs]) hp, ?_⟩
      obtain ⟨a1, a2, a3, a4⟩ := pairs_step (z := zs[i]) (v := .ref e) nD3 (sm.trans se) hDe hpe (by rw [List.length_map, List.length_take, lrs]; omega) nt
      have et : e ≠ t := ne_of_none (upd_same (H := H7)) nt
      refine ⟨a1, ps ++ [t], rs ++ [e], a2, by rw [List.length_append, lrs]; rfl, ?_, ?_, fun r hr => ?_⟩
      · rw [take_succ hi, List.map_append]
        exact a3
      · rw [List.nodup_append]
        refine ⟨nrs, by simp, fun a ha b hb z => ?_⟩
        rw [List.mem_singleton.mp hb] at z
        have := (hrs a ha).2.2
        rw [z, ne] at this
        cases this
      · rcases List.mem_append.mp hr with hr | hr
        · obtain ⟨b1, b2, b3⟩ := hrs r hr
          exact ⟨b1, b2, by rw [upd_ne b2, upd_ne (ne_of_none (se _ _ b3) nt)]; exact se _ _ b3⟩
        · rw [List.mem_singleton.mp hr]
          exact ⟨sm.free ne, eD, by rw [upd_ne eD, upd_ne et, upd_same]⟩
    obtain ⟨s7, ps3, rs, hD3, lrs, hp3, nrs, hrs⟩ := hP
    rw [lenz] at lrs
    rw [lenz, full] at hp3
    refine ⟨D3, ps3, _, rfl, .inl (.inl hD3), hp3, fun dn ndn => ?_⟩
    rw [merge_new nd]
    have s8 := s7.trans (same_upd (o := .dK (dct zs (List.map V.ref rs))) ndn)
    have s28 := s26.trans s8
    refine ⟨s28 _ _ hm2, dct keysM [.ref lo, .ref dg, .ref df, .ref dn], rfl, by show 4 ≤ 15; decide, ?_⟩
    rw [merge_new keysM_nd]
    have hm8 : upd H7 dn (.dK (dct zs (List.map V.ref rs))) m = some (.dK []) := s28 _ _ hm2
    generalize hH8 : upd H7 dn (.dK (dct zs (List.map V.ref rs))) = H8 at s8 s28 hm8
    have hn8 : H8 dn = some (.dK (dct zs (List.map V.ref rs))) := by
      rw [← hH8, upd_same]
    have nH2 : ∀ {b : Addr}, H2 b = none → H b = none := fun {b} h => s2.free h
    have mne : ∀ {b : Addr}, H2 b = none → b ≠ m := fun {b} h => (ne_of_none hm2 h).symm
    have sM : ∀ b o, b ≠ m → H8 b = some o → upd H8 m (.dK (MdA.main ⟨m, lo, dg, df, dn, rs⟩)) b = some o := fun b o n e => by
      rw [upd_ne n]
      exact e
    have dn2 : H2 dn = none := s26.free (s7.free ndn)
    have df2 : H2 df = none := s4.free ndfH
    have rs2 : ∀ r ∈ rs, H2 r = none := fun r hr => s26.free (hrs r hr).1
    have lom : lo ≠ m := fun z => by
      rw [z, hm2] at hl2
      cases hl2
    refine q ⟨m, lo, dg, df, dn, rs⟩ (upd H8 m (.dK (MdA.main ⟨m, lo, dg, df, dn, rs⟩))) (fun b o e => ?_) (fun b hb => ?_) ?_
    · rw [upd_ne (ne_of_none e nm)]
      exact s28 _ _ (s2 _ _ e)
    · rcases hb with h | h | h | h | h | h
      · rw [h]; exact nm
      · rw [h]; exact nloH
      · rw [h]; exact nH2 ndgH
      · rw [h]; exact nH2 df2
      · rw [h]; exact nH2 dn2
      · exact nH2 (rs2 b h)
    · refine ⟨upd_same, sM _ _ lom (s28 _ _ hl2), sM _ _ (mne ndgH) (s8 _ _ (s6 _ _ hg4)), sM _ _ (mne df2) (s8 _ _ hf6), sM _ _ (mne dn2) hn8, fun i r l e1 e2 => ?_, nrs, fun hc => ?_, fun z => ?_, fun z => ?_, mne ndgH, (mne dn2).symm, nd, ?_, ?_, ?_, lrs⟩
      · have hr := List.mem_of_getElem? e1
        have el : l = [] := by
          have e2' : (List.replicate zs.length ([] : List (Str × Int)))[i]? = some l := e2
          rw [List.getElem?_replicate] at e2'
          split at e2'
          · exact (Option.some.inj e2').symm
          · cases e2'
        subst el
        refine ⟨[], sM _ _ (mne (rs2 r hr)) ?_, .nil⟩
        rw [← hH8, upd_ne (ne_of_none (hrs r hr).2.2 ndn)]
        exact (hrs r hr).2.2
      · have := rs2 lo hc
        rw [hl2] at this
        cases this
      · have z' : dg = df := z
        rw [← z', hg4] at ndfH
        cases ndfH
      · have z' : dg = dn := z
        have := s7.free ndn
        rw [← z', s6 _ _ hg4] at this
        cases this
      · unfold newMd zeros
        exact List.length_replicate
      · unfold newMd zeros
        exact List.length_replicate
      · unfold newMd
        exact List.length_replicate
end
end Rc

namespace Rc
open PySem PySem.Spec PyProof.Rows L2 RZ
theorem dget_at {H : Hp} {a : Addr} {zs : List Str} {vs : List V} {j : Nat} {z : Str} {v : V} (h : H a = some (.dK (dct zs vs))) (nd : zs.Nodup) (e1 : zs[j]? = some z) (e2 : vs[j]? = some v) : DGet H a (.str z) (some v) := by
  have := DGet.k (k := Sum.inr z) h
  rw [dct_val nd e1 e2] at this
  exact this
section
variable {K : PySem.W.Frag} {H : Hp} {zs : List Str} {a : MdA} {D : Md}
theorem ModelAt.g0 (h : ModelAt K H zs a D) : DGet H a.m (.str "order") (some (.ref a.lo)) := dget_at (j := 0) h.hm keysM_nd rfl rfl
theorem ModelAt.g1 (h : ModelAt K H zs a D) : DGet H a.m (.str "given") (some (.ref a.dg)) := dget_at (j := 1) h.hm keysM_nd rfl rfl
theorem ModelAt.g2 (h : ModelAt K H zs a D) : DGet H a.m (.str "fallen") (some (.ref a.df)) := dget_at (j := 2) h.hm keysM_nd rfl rfl
theorem ModelAt.g3 (h : ModelAt K H zs a D) : DGet H a.m (.str "notes") (some (.ref a.dn)) := dget_at (j := 3) h.hm keysM_nd rfl rfl
theorem ModelAt.gg (h : ModelAt K H zs a D) {j : Nat} {z : Str} {n : Int} (e : zs[j]? = some z) (e2 : D.given[j]? = some n) : DGet H a.dg (.str z) (some (.int n)) := dget_at h.hg h.zn e (map_get e2)
theorem ModelAt.gf (h : ModelAt K H zs a D) {j : Nat} {z : Str} {n : Int} (e : zs[j]? = some z) (e2 : D.fallen[j]? = some n) : DGet H a.df (.str z) (some (.int n)) := dget_at h.hf h.zn e (map_get e2)
theorem ModelAt.gn (h : ModelAt K H zs a D) {j : Nat} {z : Str} {r : Addr} (e : zs[j]? = some z) (e2 : a.rs[j]? = some r) : DGet H a.dn (.str z) (some (.ref r)) := dget_at h.hn h.zn e (map_get e2)
theorem ModelAt.at_ (h : ModelAt K H zs a D) {j : Nat} {z : Str} (e : zs[j]? = some z) : ∃ g f l r xs, D.given[j]? = some g ∧ D.fallen[j]? = some f ∧ D.notes[j]? = some l ∧ a.rs[j]? = some r ∧ H r = some (.lst xs) ∧ DtAll K H xs (notesD l) := by
  have hj : j < zs.length := (List.getElem?_eq_some_iff.mp e).1
  have h1 : j < D.given.length := by rw [h.lg]; exact hj
  have h2 : j < D.fallen.length := by rw [h.lf]; exact hj
  have h3 : j < D.notes.length := by rw [h.ln]; exact hj
  have h4 : j < a.rs.length := by rw [h.lr]; exact hj
  obtain ⟨xs, e1, e2⟩ := h.rows j _ _ (List.getElem?_eq_getElem h4) (List.getElem?_eq_getElem h3)
  exact ⟨_, _, _, _, xs, List.getElem?_eq_getElem h1, List.getElem?_eq_getElem h2, List.getElem?_eq_getElem h3, List.getElem?_eq_getElem h4, e1, e2⟩
end
theorem min_part (am f : Int) : (if am < f then am else f) = partOf am f := by
  unfold partOf
  split <;> split <;> omega
section
variable {P : Program} {w : World} {K : PySem.W.Frag} {mg : Str → Option Value} {base : Heap}
/-! ### _law_parted -/
abbrev sLPt : Stmt := topS 57
abbrev nLPt : List Str := ["_law_model_here", "_law_who", "_law_gone", "_law_left_here", "_law_rest", "_law_to", "_law_amount_here", "_law_here"]
theorem scLPt : FnScope nLPt ["_law_model_here", "_law_who"] (defScope sLPt) := ⟨rfl, rfl, rfl, by decide +kernel, rfl, by decide +kernel, by decide +kernel⟩
def spLPt (K : PySem.W.Frag) : Sp := fun vs H Q _ => ∃ (a : MdA) (D : Md) (zs : List Str) (z : Str) (j : Nat) (l : List (Str × Int)) (f : Int), vs = [.ref a.m, .str z] ∧ ModelAt K H zs a D ∧ zs[j]? = some z ∧ D.notes[j]? = some l ∧ D.fallen[j]? = some f ∧ l.length ≤ 100 ∧
  ∀ t g m gx mx H', Same H H' → H' t = some (.tup [.ref g, .ref m]) → H g = none → H m = none → H' g = some (.lst gx) → H' m = some (.lst mx) → DtAll K H' gx (notesD (goneN l f)) → DtAll K H' mx (notesD (leftN l f)) → Q (.ref t) H'
theorem rep_if {v : V} (c : Prop) [Decidable c] : (List.replicate (if decide c = true then (1 : Int) else 0).toNat [v]).flatten = if c then [v] else [] := by
  by_cases h : c
  · rw [decide_eq_true h, if_pos h]
    rfl
  · rw [decide_eq_false h, if_neg h]
    rfl
theorem one_note {K : PySem.W.Frag} {H : Hp} {v : V} {n : Str × Int} (c : Prop) [Decidable c] (h : Dt K H v (noteD n)) : DtAll K H (if c then [v] else []) ((if c then [n] else []).map noteD) := by
  by_cases hc : c
  · rw [if_pos hc, if_pos hc]
    exact .cons h .nil
  · rw [if_neg hc, if_neg hc]
    exact .nil
theorem ok_lpt {f : Addr} {fd : FuncData} (F : Fun K "_law_parted" "_law_parted" sLPt f fd) (B : Blt mg) (B2 : Blt2 mg) : FnOk P w K mg base CX0 1 f fd ["_law_model_here", "_law_who"] (spLPt K) := by
  refine F.ok scLPt (fun vs H Q E h => ?_) (fun cdv Ar outer s H vs Q E hr h => ?_)
  · obtain ⟨_, _, _, _, _, _, _, rfl, _⟩ := h
    rfl
  · obtain ⟨a, D, zs, z, j, l, f0, rfl, hM, ej, el, ef, ll, q⟩ := h
    have hu := hu_of hr
    refine ⟨_, pss_cons (ps_par (i := 2) (j := 3) rfl scLPt.nd rfl rfl (by decide) rfl rfl (pa_cons (pe_lst pa_nil) (pa_cons (pe_lst pa_nil) pa_nil)) (by rfl))
      (pss_cons (ps_set (i := 4) scLPt.nd rfl (.inl rfl) (pe_dget hu (pe_dget hu (pv 0) pe_str (fun _ _ => rfl)) (pv 1) (fun _ _ => rfl)))
      (pss_cons (ps_for PassesOwn.never rfl (pi_list (pe_dget hu (pe_dget hu (pv 0) pe_str (fun _ _ => rfl)) (pv 1) (fun _ _ => rfl))) (pg_tup rfl (pgs_cons (pg_name (i := 5) scLPt.nd rfl (.inl rfl)) (pgs_cons (pg_name (i := 6) scLPt.nd rfl (.inl rfl)) pgs_nil)))
        (pss_cons (ps_set (i := 7) scLPt.nd rfl (.inl rfl) (pe_callB (call_min2 rfl) (by rfl) B2.min (by decide +kernel) (pa_cons (pv 4) (pa_cons (pv 6) pa_nil))))
        (pss_cons (ps_set (i := 4) scLPt.nd rfl (.inl rfl) (pe_op op_sub (pv 4) (pv 7)))
        (pss_cons (ps_set (i := 2) scLPt.nd rfl (.inl rfl) (pe_op op_cat (pv 2) (pe_op op_rep (pe_lst (pa_cons (pe_tup (pa_cons (pv 5) (pa_cons (pv 7) pa_nil))) pa_nil)) (pe_callTy call_int1 (by rfl) B.int (by decide +kernel) (pa_cons (pe_cmpR op_gt (pv 7) pe_int (nomark _)) pa_nil)))))
        (pss_one (ps_set (i := 3) scLPt.nd rfl (.inl rfl) (pe_op op_cat (pv 3) (pe_op op_rep (pe_lst (pa_cons (pe_tup (pa_cons (pv 5) (pa_cons (pe_op op_sub (pv 6) (pv 7)) pa_nil))) pa_nil)) (pe_callTy call_int1 (by rfl) B.int (by decide +kernel) (pa_cons (pe_cmpR op_lt (pv 7) (pv 6) (nomark _)) pa_nil))))))))))
      (pss_one (ps_ret (pe_tup (pa_cons (pv 2) (pa_cons (pv 3) pa_nil))))))), ?_⟩
    obtain ⟨gv, f', l', r, xs, eg, ef', el', er, hr0, hd0⟩ := hM.at_ ej
    rw [ef] at ef'
    cases ef'
    rw [el] at el'
    cases el'
    refine ⟨Nat.zero_le _, fun g ng => ⟨Nat.zero_le _, fun m nm => ⟨_, _, rfl, ?_⟩⟩⟩
    have gm : g ≠ m := fun z => by
      rw [← z, upd_same] at nm
      cases nm
    have s0 : Same H (upd (upd H g (.lst [])) m (.lst [])) := (same_upd ng).trans (same_upd nm)
    have nmH : H m = none := (same_upd ng).free nm
    have hM0 := model_same hM s0
    refine ⟨.ref a.m, rfl, a.m, .ref a.df, rfl, hM0.g2, .str z, rfl, a.df, .int f0, rfl, hM0.gf ej ef, ?_⟩
    refine ⟨.ref a.m, rfl, a.m, .ref a.dn, rfl, hM0.g3, .str z, rfl, a.dn, .ref r, rfl, hM0.gn ej er, r, rfl, ⟨_, .inl (.inl (s0 _ _ hr0))⟩, ?_⟩
    refine for_it (walk_list (K := K) (a := r) (xs := xs)) (fun i σ H' => ∃ y5 y6 y7 fi g m gx mx Gs Ms, σ = [some (.ref a.m), some (.str z), some (.ref g), some (.ref m), some (.int fi), y5, y6, y7] ∧ Same H H' ∧ H g = none ∧ H m = none ∧ H' g = some (.lst gx) ∧ H' m = some (.lst mx) ∧
        DtAll K H' gx (notesD Gs) ∧ DtAll K H' mx (notesD Ms) ∧ Gs.length ≤ i ∧ Ms.length ≤ i ∧ Gs ++ goneN (l.drop i) fi = goneN l f0 ∧ Ms ++ leftN (l.drop i) fi = leftN l f0)
      ⟨_, _, _, f0, g, m, [], [], [], [], rfl, s0, ng, nmH, by rw [upd_ne gm, upd_same], upd_same, .nil, .nil, Nat.le_refl _, Nat.le_refl _, rfl, rfl⟩ (fun i σ H' _ hP => ?_) (fun i x σ H1' H1 hi hP hY => ?_) (fun σ H' hP => ?_)
    · obtain ⟨_, _, _, _, _, _, _, _, _, _, _, s1, _⟩ := hP
      exact .inl (.inl (s1 _ _ hr0))
    · obtain ⟨rfl, ex⟩ := hY
      obtain ⟨y5, y6, y7, fi, g, m, gx, mx, Gs, Ms, rfl, s1, ng, nm, hg, hm, dg, dm, lg, lm, eg', em⟩ := hP
      obtain ⟨hil, dn⟩ := (DtAll.same s1 _ hd0).notes_get ex
      obtain ⟨ta, rfl, qt⟩ := note_inv dn
      have ed : l.drop i = l[i] :: l.drop (i + 1) := List.drop_eq_getElem_cons hil
      rw [ed] at eg' em
      obtain ⟨t, am, el1⟩ : ∃ t am, l[i] = (t, am) := ⟨_, _, rfl⟩
      rw [el1] at eg' em qt
      rw [goneN_cons] at eg'
      rw [leftN_cons] at em
      have dgl := dg.len
      have dml := dm.len
      unfold notesD at dgl dml
      rw [List.length_map] at dgl dml
      refine ⟨ta, _, rfl, qt, rfl, _, _, rfl, _, _, rfl, rfl, ?_⟩
      refine ⟨.int fi, rfl, .int am, rfl, _, _, rfl, ?_⟩
      rw [min_part]
      generalize partOf am fi = pt at eg' em
      refine ⟨.int fi, rfl, .int pt, rfl, _, _, rfl, rfl, ?_⟩
      refine ⟨.ref g, rfl, .str t, rfl, .int pt, rfl, by show 2 ≤ sizeLine; decide, fun t1 n1 => ⟨by show 1 ≤ sizeLine; decide, fun l1 nl1 => ?_⟩⟩
      refine ⟨.int pt, rfl, _, _, rfl, rfl, .inr ⟨_, rfl, l1, _, _, rfl, rfl, upd_same, by split <;> decide, by split <;> decide, ?_, fun l2 nl2 => ?_⟩⟩
      · show 1 * _ ≤ sizeLine
        split <;> decide
      rw [rep_if]
      have sA := (same_upd (o := .tup [V.str t, V.int pt]) n1).trans ((same_upd (o := .lst [V.ref t1]) nl1).trans (same_upd (o := .lst (if 0 < pt then [V.ref t1] else [])) nl2))
      generalize hHA : upd (upd (upd H1 t1 (.tup [V.str t, V.int pt])) l1 (.lst [V.ref t1])) l2 (.lst (if 0 < pt then [V.ref t1] else [])) = HA at sA
      have hl2 : HA l2 = some (.lst (if 0 < pt then [V.ref t1] else [])) := by
        rw [← hHA, upd_same]
      have ht1 : HA t1 = some (.tup [V.str t, V.int pt]) := by
        rw [← hHA]
        exact (same_upd nl2) _ _ ((same_upd nl1) _ _ upd_same)
      refine ⟨g, l2, gx, _, rfl, rfl, sA _ _ hg, hl2, ?_, fun g2 ng2 => ?_⟩
      · have : (if 0 < pt then [V.ref t1] else []).length ≤ 1 := by split <;> simp
        exact small_line (by omega)
      have sB := sA.trans (same_upd (o := .lst (gx ++ if 0 < pt then [V.ref t1] else [])) ng2)
      generalize hHB : upd HA g2 (.lst (gx ++ if 0 < pt then [V.ref t1] else [])) = HB at sB
      have hg2 : HB g2 = some (.lst (gx ++ if 0 < pt then [V.ref t1] else [])) := by
        rw [← hHB, upd_same]
      have ht1B : HB t1 = some (.tup [V.str t, V.int pt]) := by
        rw [← hHB]
        exact same_upd ng2 _ _ ht1
      have ng2H : H g2 = none := (s1.trans sA).free ng2
      -- left
      refine ⟨.ref m, rfl, .str t, rfl, .int am, rfl, .int pt, rfl, _, _, rfl, rfl, by show 2 ≤ sizeLine; decide, fun t3 n3 => ⟨by show 1 ≤ sizeLine; decide, fun l3 nl3 => ?_⟩⟩
      refine ⟨.int pt, rfl, .int am, rfl, _, _, rfl, rfl, .inr ⟨_, rfl, l3, _, _, rfl, rfl, upd_same, by split <;> decide, by split <;> decide, ?_, fun l4 nl4 => ?_⟩⟩
      · show 1 * _ ≤ sizeLine
        split <;> decide
      rw [rep_if]
      have sC := (same_upd (o := .tup [V.str t, V.int (am - pt)]) n3).trans ((same_upd (o := .lst [V.ref t3]) nl3).trans (same_upd (o := .lst (if pt < am then [V.ref t3] else [])) nl4))
      generalize hHC : upd (upd (upd HB t3 (.tup [V.str t, V.int (am - pt)])) l3 (.lst [V.ref t3])) l4 (.lst (if pt < am then [V.ref t3] else [])) = HC at sC
      have hl4 : HC l4 = some (.lst (if pt < am then [V.ref t3] else [])) := by
        rw [← hHC, upd_same]
      have ht3 : HC t3 = some (.tup [V.str t, V.int (am - pt)]) := by
        rw [← hHC]
        exact (same_upd nl4) _ _ ((same_upd nl3) _ _ upd_same)
      refine ⟨m, l4, mx, _, rfl, rfl, sC _ _ (sB _ _ hm), hl4, ?_, fun m2 nm2 => ?_⟩
      · have : (if pt < am then [V.ref t3] else []).length ≤ 1 := by split <;> simp
        exact small_line (by omega)
      have sD := sC.trans (same_upd (o := .lst (mx ++ if pt < am then [V.ref t3] else [])) nm2)
      have sE := same_upd (o := .lst (mx ++ if pt < am then [V.ref t3] else [])) nm2
      refine ⟨_, _, _, fi - pt, g2, m2, _, _, Gs ++ (if 0 < pt then [(t, pt)] else []), Ms ++ (if pt < am then [(t, am - pt)] else []), rfl, s1.trans (sB.trans sD), ng2H, ((s1.trans sB).trans sC).free nm2, sD _ _ hg2, upd_same, ?_, ?_, ?_, ?_, by rw [List.append_assoc]; exact eg', by rw [List.append_assoc]; exact em⟩
      · unfold notesD
        rw [List.map_append]
        exact (DtAll.same (sB.trans sD) _ dg).append (one_note _ (.tup (.inl (.inl (sD _ _ ht1B))) (.cons (.str _) (.cons (.int _) .nil))))
      · unfold notesD
        rw [List.map_append]
        exact (DtAll.same (sB.trans sD) _ dm).append (one_note _ (.tup (.inl (.inl (sE _ _ ht3))) (.cons (.str _) (.cons (.int _) .nil))))
      · rw [List.length_append]
        have : (if 0 < pt then [(t, pt)] else []).length ≤ 1 := by split <;> simp
        omega
      · rw [List.length_append]
        have : (if pt < am then [(t, am - pt)] else []).length ≤ 1 := by split <;> simp
        omega
    · obtain ⟨y5, y6, y7, fi, g, m, gx, mx, Gs, Ms, rfl, s1, ng, nm, hg, hm, dg, dm, lg, lm, eg', em⟩ := hP
      have hx : l.drop xs.length = [] := List.drop_of_length_le (by
        have := hd0.len
        unfold notesD at this
        rw [List.length_map] at this
        omega)
      rw [hx] at eg' em
      rw [goneN_nil, List.append_nil] at eg'
      rw [leftN_nil, List.append_nil] at em
      subst eg' em
      refine ⟨.ref g, rfl, .ref m, rfl, by show 2 ≤ sizeLine; decide, fun t nt => ?_⟩
      have st := same_upd (o := .tup [.ref g, .ref m]) nt
      exact q t g m gx mx _ (s1.trans st) upd_same ng nm (st _ _ hg) (st _ _ hm) (DtAll.same st _ dg) (DtAll.same st _ dm)
end
end Rc

namespace Rc
open PySem PySem.Spec PyProof.Rows L2 RZ
/-! ### _law_deeds -/
inductive Deed where
  | give (z : Str) (n : Int)
  | put (z y : Str) (n : Int)
def deedD : Deed → PyData
  | .give z n => .tuple [.str "give", .str z, .int n]
  | .put z y n => .tuple [.str "put", .str z, .str y, .int n]
theorem tup_deed (d : Deed) : tupD (deedD d) = true := by cases d <;> simp [deedD, tupD, tupDs]
def deedsD (l : List Deed) : List PyData := l.map deedD
theorem tup_deeds (l : List Deed) : tupDs (deedsD l) = true := tupDs_map tup_deed l
def Deed.Ok (zs : List Str) : Deed → Prop
  | .give z n => z ∈ zs ∧ Amt n
  | .put z y n => z ∈ zs ∧ y ∈ zs ∧ Amt n
end Rc

namespace Rc
open PySem PySem.Spec PyProof.Rows L2 RZ
def RowsOk (D : Md) : Prop := ∀ l ∈ D.notes, l.length ≤ 60
def sumsD (D : Md) (z : Str) : Int := ((D.notes.zip D.fallen).map fun p => sumTo z (goneN p.1 p.2)).sum
def cashD (D : Md) (j : Nat) (z : Str) : Int := D.given.getD j 0 - D.fallen.getD j 0 + sumsD D z
def bkOf (zs : List Str) (D : Md) : Bk := ⟨zs, D.given, D.notes, D.fallen⟩
theorem cash_eq (zs : List Str) (D : Md) (j : Nat) (z : Str) : cashM (bkOf zs D) j z = cashD D j z := by
  show D.given.getD j 0 + sumsD D z - D.fallen.getD j 0 = D.given.getD j 0 - D.fallen.getD j 0 + sumsD D z
  omega
def doneD (zs : List Str) (D : Md) : Deed → Md
  | .give z n => { D with given := D.given.set (zs.idxOf z) (D.given.getD (zs.idxOf z) 0 + n) }
  | .put z y n => { D with notes := D.notes.set (zs.idxOf z) (D.notes.getD (zs.idxOf z) [] ++ [(y, n)]) }
def stepM (M : Bk) : Deed → Bk
  | .give z n => giveM M (M.names.idxOf z) n
  | .put z y n => putM M (M.names.idxOf z) y n
theorem step_eq (zs : List Str) (D : Md) (d : Deed) : stepM (bkOf zs D) d = bkOf zs (doneD zs D d) := by cases d <;> rfl
theorem idx_get {zs : List Str} {z : Str} (h : z ∈ zs) : zs[zs.idxOf z]? = some z := by
  have hl := List.idxOf_lt_length_of_mem h
  rw [List.getElem?_eq_getElem hl, List.getElem_idxOf]
theorem sum_set : ∀ (l : List (List (Str × Int))) (j : Nat) (x : List (Str × Int)), j < l.length → ((l.set j x).map List.length).sum + (l.getD j []).length = (l.map List.length).sum + x.length
  | [], j, x, h => by simp at h
  | a :: r, 0, x, h => by
    simp only [List.set_cons_zero, List.map_cons, List.sum_cons, List.getD_cons_zero]
    omega
  | a :: r, j + 1, x, h => by
    have := sum_set r j x (by simpa using h)
    simp only [List.set_cons_succ, List.map_cons, List.sum_cons, List.getD_cons_succ]
    omega
theorem step_ok {M : Bk} (ok : M.Ok) {d : Deed} (hd : d.Ok M.names) (hm : manyM M + 1 ≤ 60) : (stepM M d).Ok ∧ manyM (stepM M d) ≤ manyM M + 1 ∧ (stepM M d).names = M.names := by
  cases d with
  | give z n => exact ⟨⟨ok.n0, ok.n1, ok.nd, ok.nm, by show (M.gifts.set _ _).length = _; rw [List.length_set]; exact ok.lg, ok.ls, ok.ld, ok.many⟩, Nat.le_succ _, rfl⟩
  | put z y n =>
    have hj : M.names.idxOf z < M.stacks.length := by
      rw [ok.ls]
      exact List.idxOf_lt_length_of_mem hd.1
    have e : manyM (stepM M (.put z y n)) = manyM M + 1 := by
      have := sum_set M.stacks (M.names.idxOf z) (M.stacks.getD (M.names.idxOf z) [] ++ [(y, n)]) hj
      rw [List.length_append] at this
      show ((M.stacks.set _ _).map List.length).sum = (M.stacks.map List.length).sum + 1
      have e1 : [(y, n)].length = 1 := rfl
      omega
    exact ⟨⟨ok.n0, ok.n1, ok.nd, ok.nm, ok.lg, by show (M.stacks.set _ _).length = _; rw [List.length_set]; exact ok.ls, ok.ld, by show manyM (stepM M (.put z y n)) ≤ 60; omega⟩, Nat.le_of_eq e, rfl⟩
theorem dfold_ok : ∀ (ds : List Deed) {M : Bk}, M.Ok → (∀ d ∈ ds, d.Ok M.names) → manyM M + ds.length ≤ 60 → (ds.foldl stepM M).Ok ∧ manyM (ds.foldl stepM M) ≤ manyM M + ds.length ∧ (ds.foldl stepM M).names = M.names
  | [], M, ok, _, _ => ⟨ok, Nat.le_refl _, rfl⟩
  | d :: ds, M, ok, h, hm => by
    rw [List.length_cons] at hm
    obtain ⟨a1, a2, a3⟩ := step_ok ok (h d List.mem_cons_self) (by omega)
    obtain ⟨b1, b2, b3⟩ := dfold_ok ds a1 (fun e he => by rw [a3]; exact h e (List.mem_cons_of_mem _ he)) (by omega)
    refine ⟨b1, ?_, b3.trans a3⟩
    rw [List.length_cons]
    show manyM (ds.foldl stepM (stepM M d)) ≤ _
    omega
end Rc

namespace Rc
open PySem PySem.Spec PyProof.Rows L2 RZ
section
variable {P : Program} {w : World} {K : PySem.W.Frag} {mg : Str → Option Value} {base : Heap}
/-! ### _law_left -/
abbrev sLLf : Stmt := topS 58
theorem scLLf : FnScope ["_law_model_here", "_law_who"] ["_law_model_here", "_law_who"] (defScope sLLf) := ⟨rfl, rfl, rfl, by decide +kernel, rfl, by decide +kernel, by decide +kernel⟩
def spLLf (K : PySem.W.Frag) : Sp := fun vs H Q _ => ∃ (a : MdA) (D : Md) (zs : List Str) (z : Str) (j : Nat) (l : List (Str × Int)) (f : Int), vs = [.ref a.m, .str z] ∧ ModelAt K H zs a D ∧ zs[j]? = some z ∧ D.notes[j]? = some l ∧ D.fallen[j]? = some f ∧ l.length ≤ 100 ∧
  ∀ m mx H', Same H H' → H m = none → H' m = some (.lst mx) → DtAll K H' mx (notesD (leftN l f)) → Q (.ref m) H'
theorem ok_llf {f fp : Addr} {fd fdp : FuncData} (F : Fun K "_law_left" "_law_left" sLLf f fd) (PT : Has P w K mg base 1 "_law_parted" ["_law_model_here", "_law_who"] (spLPt K) fp fdp) : FnOk P w K mg base CX0 2 f fd ["_law_model_here", "_law_who"] (spLLf K) := by
  refine F.ok scLLf (fun vs H Q E h => ?_) (fun cdv Ar outer s H vs Q E hr h => ?_)
  · obtain ⟨_, _, _, _, _, _, _, rfl, _⟩ := h
    rfl
  · obtain ⟨a, D, zs, z, j, l, f0, rfl, hM, ej, el, ef, ll, q⟩ := h
    refine ⟨_, pss_one (ps_ret (pe_ix ix_tup (pe_call PT.ok hr (by rfl) PT.g PT.kp PT.b .nil pass0 (pa_cons (pv 0) (pa_cons (pv 1) pa_nil))) pe_int (fun _ _ => rfl))), ?_⟩
    refine ⟨.ref a.m, rfl, .str z, rfl, a, D, zs, z, j, l, f0, rfl, hM, ej, el, ef, ll, fun t g m gx mx H1 s1 ht ng nm hg hm dg dm => ?_⟩
    exact ⟨t, _, 1, .ref m, rfl, rfl, .inl (.inl ht), rfl, q m mx H1 s1 nm hm dm⟩
end
end Rc

namespace Rc
open PySem PySem.Spec PyProof.Rows L2 RZ
theorem give_ne_put : ¬ (V.str ("put" : Str)) = V.str ("give" : Str) := fun e => absurd (V.str.inj e) (by decide +kernel)
/-- what a deed changes -/
def MdA.Foot (a : MdA) (b : Addr) : Prop := b = a.dg ∨ b ∈ a.rs
def ButF (a : MdA) (H H' : Hp) : Prop := ∀ b o, ¬ a.Foot b → H b = some o → H' b = some o
theorem ModelAt.nofoot_tup {K : PySem.W.Frag} {H : Hp} {zs : List Str} {a : MdA} {D : Md} (h : ModelAt K H zs a D) {b : Addr} {o : HO} (e : H b = some o) (t : TupO o) : ¬ a.Foot b := fun f => by
  rcases f with f | f
  · rw [f, h.hg] at e
    cases e
    exact t
  · obtain ⟨i, hi, e'⟩ := List.getElem_of_mem f
    have hn : i < D.notes.length := by
      rw [h.ln, ← h.lr]
      exact hi
    obtain ⟨xs, e1, _⟩ := h.rows i b _ (by rw [List.getElem?_eq_getElem hi, e']) (List.getElem?_eq_getElem hn)
    rw [e1] at e
    cases e
    exact t
theorem ButF.kt {K : PySem.W.Frag} {H H' : Hp} {zs : List Str} {a : MdA} {D : Md} (b : ButF a H H') (h : ModelAt K H zs a D) : KT H H' := fun c o e t => b c o (h.nofoot_tup e t) e
theorem ButF.kp {K : PySem.W.Frag} {H H' : Hp} {zs : List Str} {a : MdA} {D : Md} (b : ButF a H H') (h : ModelAt K H zs a D) : Kp H H' := fun c o e t => b c o (fun f => by
  rcases f with f | f
  · rw [f, h.hg] at e
    cases e
    exact t
  · obtain ⟨i, hi, e'⟩ := List.getElem_of_mem f
    have hn : i < D.notes.length := by
      rw [h.ln, ← h.lr]
      exact hi
    obtain ⟨xs, e1, _⟩ := h.rows i c _ (by rw [List.getElem?_eq_getElem hi, e']) (List.getElem?_eq_getElem hn)
    rw [e1] at e
    cases e
    exact t) e
theorem deed_give {K : PySem.W.Frag} {H : Hp} {v : V} {z : Str} {n : Int} (h : Dt K H v (deedD (.give z n))) : Dt K H v (.tuple [.str "give", .str z, .int n]) := h
end Rc

namespace Rc
open PySem PySem.Spec PyProof.Rows L2 RZ
/-! ### data that can be shown -/
structure NiceD (d : PyData) (n : Nat) : Prop where
  sh : d.showable = true
  lv : d.leavesShort 1921 = true
  nd : d.hasDict = false
  dp : d.depth ≤ 5
  bk : d.bulk ≤ n
  cl : d.canLay0 = true
structure NiceA (ds : List PyData) (n : Nat) : Prop where
  sh : PyData.showableAll ds = true
  lv : PyData.leavesShortAll 1921 ds = true
  nd : PyData.hasDictAll ds = false
  dp : PyData.depthAll ds ≤ 4
  bk : PyData.bulkAll ds ≤ n
  cl : PyData.canLayAll0 ds = true
theorem NiceA.nil : NiceA [] 0 := ⟨rfl, rfl, rfl, Nat.zero_le _, Nat.le_refl _, rfl⟩
theorem NiceA.cons {d : PyData} {ds : List PyData} {n m : Nat} (a : NiceD d n) (hd : d.depth ≤ 4) (b : NiceA ds m) : NiceA (d :: ds) (n + 1 + m) := by
  refine ⟨?_, ?_, ?_, ?_, ?_, ?_⟩
  · simp only [PyData.showableAll, a.sh, b.sh, Bool.and_self]
  · simp only [PyData.leavesShortAll, a.lv, b.lv, Bool.and_self]
  · simp only [PyData.hasDictAll, a.nd, b.nd, Bool.or_self]
  · simp only [PyData.depthAll]
    have := b.dp
    omega
  · simp only [PyData.bulkAll]
    have := a.bk
    have := b.bk
    omega
  · simp only [PyData.canLayAll0, a.cl, b.cl, Bool.and_self]
theorem NiceA.list {ds : List PyData} {n : Nat} (a : NiceA ds n) : NiceD (.list ds) n := by
  refine ⟨by simpa only [PyData.showable] using a.sh, by simpa only [PyData.leavesShort] using a.lv, by simpa only [PyData.hasDict] using a.nd, ?_, by simpa only [PyData.bulk] using a.bk, by simpa only [PyData.canLay0] using a.cl⟩
  simp only [PyData.depth]
  have := a.dp
  omega
theorem NiceA.tuple {ds : List PyData} {n : Nat} (a : NiceA ds n) : NiceD (.tuple ds) n := by
  refine ⟨by simpa only [PyData.showable] using a.sh, by simpa only [PyData.leavesShort] using a.lv, by simpa only [PyData.hasDict] using a.nd, ?_, by simpa only [PyData.bulk] using a.bk, by simpa only [PyData.canLay0] using a.cl⟩
  simp only [PyData.depth]
  have := a.dp
  omega
def BigOk (i : Int) : Prop := i.natAbs < 2 ^ 300
theorem nice_int {i : Int} (h : BigOk i) : NiceD (.int i) 0 := by
  have h1 : i.natAbs.log2 < 1920 := Nat.lt_trans (PySem.Flt.log2_lt_of (by decide) h) (by decide)
  refine ⟨?_, ?_, by simp only [PyData.hasDict], by simp only [PyData.depth]; omega, by simp only [PyData.bulk]; omega, by simp only [PyData.canLay0]⟩
  · simp only [PyData.showable]
    exact decide_eq_true h1
  · simp only [PyData.leavesShort, PyData.shown]
    exact decide_eq_true (int_text_len_1921 h1)
theorem abc_lt : ∀ c ∈ abc, c < 128 := by decide +kernel
theorem name_signs {z : Str} (h : nameT z = true) : ∀ c ∈ z.cps.toList, c ∈ abc := by
  unfold nameT at h
  simp only [Bool.and_eq_true, List.all_eq_true, decide_eq_true_eq] at h
  exact h.2
theorem nice_name {z : Str} (h : nameT z = true) : NiceD (.str z) 8 := by
  have hs := name_signs h
  refine ⟨by simp only [PyData.showable], ?_, by simp only [PyData.hasDict], by simp only [PyData.depth]; omega, ?_, ?_⟩
  · simp only [PyData.leavesShort, List.all_eq_true, decide_eq_true_eq]
    exact fun c hc => Nat.lt_trans (abc_lt c (hs c hc)) (by decide)
  · simp only [PyData.bulk]
    exact (nameT_len h).2
  · simp only [PyData.canLay0]
    show z.cps.all (fun c => decide (c < 0x110000)) = true
    rw [← Array.all_toList, List.all_eq_true]
    exact fun c hc => decide_eq_true (Nat.lt_trans (abc_lt c (hs c hc)) (by decide))
theorem nice_names : ∀ {zs : List Str}, (∀ z ∈ zs, nameT z = true) → NiceA (zs.map PyData.str) (9 * zs.length)
  | [], _ => NiceA.nil
  | z :: r, h => by
    have a := nice_name (h z List.mem_cons_self)
    have b := nice_names fun y hy => h y (List.mem_cons_of_mem _ hy)
    have c := NiceA.cons a (by simp only [PyData.depth]; omega) b
    rw [List.map_cons, List.length_cons]
    have e : 9 * (r.length + 1) = 8 + 1 + 9 * r.length := by omega
    rw [e]
    exact c
/-- notes as the law draws them -/
def NoteOk (zs : List Str) (n : Str × Int) : Prop := n.1 ∈ zs ∧ Amt n.2
theorem amt_big {n : Int} (h : Amt n) : BigOk n := by
  have h1 := h.1
  have h2 := h.2
  have e : (10 : Int) ^ 58 < 2 ^ 300 := by decide
  have e2 : ((2 ^ 300 : Nat) : Int) = 2 ^ 300 := by decide
  unfold BigOk
  omega
theorem nice_note {zs : List Str} (hz : ∀ z ∈ zs, nameT z = true) {n : Str × Int} (h : NoteOk zs n) : NiceD (noteD n) 10 ∧ (noteD n).depth ≤ 1 := by
  have a := NiceA.cons (nice_name (hz _ h.1)) (by simp only [PyData.depth]; omega) (NiceA.cons (nice_int (amt_big h.2)) (by simp only [PyData.depth]; omega) NiceA.nil)
  exact ⟨a.tuple, by simp [noteD, PyData.depth, PyData.depthAll]⟩
theorem nice_notes {zs : List Str} (hz : ∀ z ∈ zs, nameT z = true) : ∀ {l : List (Str × Int)}, (∀ n ∈ l, NoteOk zs n) → NiceA (notesD l) (11 * l.length)
  | [], _ => NiceA.nil
  | n :: r, h => by
    obtain ⟨a, hd⟩ := nice_note hz (h n List.mem_cons_self)
    have b := nice_notes hz fun y hy => h y (List.mem_cons_of_mem _ hy)
    have c := NiceA.cons a (by omega) b
    rw [List.length_cons]
    have e : 11 * (r.length + 1) = 10 + 1 + 11 * r.length := by omega
    rw [e]
    exact c
theorem nice_fits {d : PyData} {n : Nat} (h : NiceD d n) (hn : n ≤ 8000) : (∃ i, d = .int i) ∨ d.shown.length ≤ sizeLine := by
  have h1 := PyData.shown_le_bulk 1921 (by decide) d h.lv
  have h2 := h.bk
  refine .inr ?_
  rw [sizeLine_eq]
  have : (1921 + 2) * d.bulk ≤ 1923 * 8000 := Nat.mul_le_mul (Nat.le_refl _) (by omega)
  omega
theorem nice_shaped {d : PyData} {n : Nat} (h : NiceD d n) : SeqAt.shaped d = true := by
  unfold SeqAt.shaped
  rw [h.cl, decide_eq_true (show d.depth ≤ 64 by have := h.dp; omega)]
  rfl
/-! ### where nothing has fallen -/
theorem part_zero {a : Int} (h : 1 ≤ a) : partOf a 0 = 0 := by
  unfold partOf
  rw [if_pos (by omega)]
theorem gone_zero : ∀ {l : List (Str × Int)}, (∀ n ∈ l, 1 ≤ n.2) → goneN l 0 = []
  | [], _ => rfl
  | (t, a) :: r, h => by
    rw [goneN_cons, part_zero (h _ List.mem_cons_self), if_neg (by omega), Int.sub_zero, gone_zero fun n hn => h n (List.mem_cons_of_mem _ hn)]
    rfl
theorem left_zero : ∀ {l : List (Str × Int)}, (∀ n ∈ l, 1 ≤ n.2) → leftN l 0 = l
  | [], _ => rfl
  | (t, a) :: r, h => by
    have ha : 1 ≤ a := h _ List.mem_cons_self
    rw [leftN_cons, part_zero ha, if_pos (by omega), Int.sub_zero, Int.sub_zero, left_zero fun n hn => h n (List.mem_cons_of_mem _ hn)]
    rfl
/-- a model as the law makes it: nothing fallen, k deeds at the most -/
structure Gd (zs : List Str) (D : Md) (k : Nat) : Prop where
  zf : D.fallen = zeros zs.length
  nt : ∀ l ∈ D.notes, ∀ n ∈ l, NoteOk zs n
  gv : ∀ g ∈ D.given, 0 ≤ g ∧ g ≤ (k : Int) * 10 ^ 58
  my : (D.notes.map List.length).sum ≤ k
  k1 : k ≤ 60
theorem Gd.big {zs : List Str} {D : Md} {k : Nat} (h : Gd zs D k) {g : Int} (hg : g ∈ D.given) : BigOk g := by
  obtain ⟨a, b⟩ := h.gv g hg
  have k1 := h.k1
  have e : (60 : Int) * 10 ^ 58 < 2 ^ 300 := by decide
  have e2 : ((2 ^ 300 : Nat) : Int) = 2 ^ 300 := by decide
  have : (k : Int) * 10 ^ 58 ≤ 60 * 10 ^ 58 := Int.mul_le_mul_of_nonneg_right (by omega) (by decide)
  unfold BigOk
  omega
theorem Gd.rows {zs : List Str} {D : Md} {k : Nat} (h : Gd zs D k) : RowsOk D := fun l hl => by
  have := len_le_sum hl
  have := h.my
  have := h.k1
  omega
theorem Gd.sums {zs : List Str} {D : Md} {k : Nat} (h : Gd zs D k) (z : Str) : sumsD D z = 0 := by
  unfold sumsD
  have : ∀ p ∈ D.notes.zip D.fallen, sumTo z (goneN p.1 p.2) = 0 := fun p hp => by
    obtain ⟨h1, h2⟩ := List.of_mem_zip hp
    have e : p.2 = 0 := by
      rw [h.zf] at h2
      exact List.eq_of_mem_replicate h2
    rw [e, gone_zero fun n hn => (h.nt _ h1 n hn).2.1]
    rfl
  generalize D.notes.zip D.fallen = L at this
  induction L with
  | nil => rfl
  | cons a r ih =>
    rw [List.map_cons, List.sum_cons, this a List.mem_cons_self, ih fun p hp => this p (List.mem_cons_of_mem _ hp)]
    rfl
theorem Gd.done {zs : List Str} {D : Md} {k : Nat} (h : Gd zs D k) {d : Deed} (od : d.Ok zs) (hk : k + 1 ≤ 60) (ln : D.notes.length = zs.length) (lg : D.given.length = zs.length) : Gd zs (doneD zs D d) (k + 1) := by
  have mono : ∀ g ∈ D.given, 0 ≤ g ∧ g ≤ ((k + 1 : Nat) : Int) * 10 ^ 58 := fun g hg => by
    obtain ⟨a, b⟩ := h.gv g hg
    refine ⟨a, Int.le_trans b (Int.mul_le_mul_of_nonneg_right (by omega) (by decide))⟩
  cases d with
  | give z n =>
    refine ⟨h.zf, h.nt, fun g hg => ?_, Nat.le_succ_of_le h.my, hk⟩
    rcases List.mem_or_eq_of_mem_set hg with hg | hg
    · exact mono g hg
    · have hj : zs.idxOf z < D.given.length := by
        rw [lg]
        exact List.idxOf_lt_length_of_mem od.1
      obtain ⟨a, b⟩ := h.gv (D.given.getD (zs.idxOf z) 0) (by
        rw [List.getD_eq_getElem?_getD, List.getElem?_eq_getElem hj]
        exact List.getElem_mem hj)
      obtain ⟨n1, n2⟩ := od.2
      have e : ((k + 1 : Nat) : Int) * 10 ^ 58 = (k : Int) * 10 ^ 58 + 10 ^ 58 := by
        rw [Int.natCast_add, Int.add_mul]
        rfl
      rw [hg, e]
      omega
  | put z y n =>
    have hj : zs.idxOf z < D.notes.length := by
      rw [ln]
      exact List.idxOf_lt_length_of_mem od.1
    refine ⟨h.zf, fun l hl m hm => ?_, mono, ?_, hk⟩
    · rcases List.mem_or_eq_of_mem_set hl with hl | hl
      · exact h.nt l hl m hm
      · rw [hl] at hm
        rcases List.mem_append.mp hm with hm | hm
        · refine h.nt (D.notes.getD (zs.idxOf z) []) ?_ m hm
          rw [List.getD_eq_getElem?_getD, List.getElem?_eq_getElem hj]
          exact List.getElem_mem hj
        · rw [List.mem_singleton.mp hm]
          exact od.2
    · have := sum_set D.notes (zs.idxOf z) (D.notes.getD (zs.idxOf z) [] ++ [(y, n)]) hj
      rw [List.length_append] at this
      have e1 : [(y, n)].length = 1 := rfl
      have := h.my
      show ((D.notes.set _ _).map List.length).sum ≤ k + 1
      omega
theorem Gd.new {zs : List Str} : Gd zs (newMd zs.length) 0 := by
  refine ⟨rfl, fun l hl n hn => ?_, fun g hg => ?_, ?_, by decide⟩
  · rw [List.eq_of_mem_replicate hl] at hn
    cases hn
  · rw [List.eq_of_mem_replicate hg]
    exact ⟨Int.le_refl _, by simp⟩
  · show ((List.replicate zs.length ([] : List (Str × Int))).map List.length).sum ≤ 0
    rw [List.map_replicate]
    simp
theorem Gd.ok {zs : List Str} {D : Md} {k : Nat} (h : Gd zs D k) (nz : NamesOk zs) (lg : D.given.length = zs.length) (ln : D.notes.length = zs.length) : (bkOf zs D).Ok := by
  refine ⟨nz.n0, nz.n1, nz.nd, nz.nm, lg, ln, ?_, ?_⟩
  · show D.fallen.length = _
    rw [h.zf]
    exact List.length_replicate
  · have := h.my
    have := h.k1
    show (D.notes.map List.length).sum ≤ 60
    omega
theorem DpAll.strs {K : PySem.W.Frag} {H : Hp} : ∀ zs : List Str, DpAll K H (zs.map V.str) (zs.map PyData.str)
  | [] => .nil
  | z :: r => .cons (.str z) (DpAll.strs r)
end Rc

namespace Rc
open PySem PySem.Spec PyProof.Rows L2 RZ
theorem Pot.ne {H : Hp} {p b : Addr} (h : Pot H p) (n : H b = none) : b ≠ p := by
  obtain ⟨x, y, e, _⟩ := h
  exact (ne_of_none e n).symm
def rListS (K : PySem.W.Frag) : List V → Hp → VK → Prop := fun xs H Q => ∃ p ys, xs = [.ref p] ∧ (SqL K H p ys ∨ SqT K H p ys) ∧ ∀ l, H l = none → Q (.ref l) (upd H l (.lst ys))
theorem call_listS {X : Cx} {K : PySem.W.Frag} (e : X.K = K) : CallR X (.type "list") (rListS K) := by
  subst e
  exact call_list_of
/-- a def that is called, no repr being under way -/
structure HasG (P : Program) (w : World) (K : PySem.W.Frag) (mg : Str → Option Value) (base : Heap) (k : Nat) (nm : Str) (ps : List Str) (sp : Sp) (f : Addr) (fd : FuncData) : Prop where
  ok : FnG P w K mg base CX0 k f fd ps sp
  g : mg nm = some (.ref f)
  kp : PySem.W.keepIn K (.ref f) = true
  b : Binds K fd ps []
mutual
theorem Dt.dp {K : PySem.W.Frag} {H : Hp} : ∀ {v : V} (d : PyData), tupD d = true → Dt K H v d → Dp K H v d
  | _, .none, _, h => by cases h; exact .non
  | _, .bool _, _, h => by cases h; exact .bl _
  | _, .int _, _, h => by cases h; exact .int _
  | _, .str _, _, h => by cases h; exact .str _
  | _, .list ds, t, h => by simp [tupD] at t
  | _, .dict ps, t, h => by simp [tupD] at t
  | _, .tuple ds, t, h => by
    cases h with
    | tup q a => exact .tup q (DtAll.dp ds (by simpa [tupD] using t) a)
theorem DtAll.dp {K : PySem.W.Frag} {H : Hp} : ∀ {vs : List V} (ds : List PyData), tupDs ds = true → DtAll K H vs ds → DpAll K H vs ds
  | _, [], _, h => by cases h; exact .nil
  | _, d :: ds, t, h => by
    cases h with
    | cons a b =>
      have t' : tupD d = true ∧ tupDs ds = true := by simpa [tupDs] using t
      exact .cons (Dt.dp d t'.1 a) (DtAll.dp ds t'.2 b)
end
theorem tup_key (M : Bk) : tupD (keyD M) = true := by
  have h1 := tup_strs M.names
  have h2 := tup_ints M.gifts
  have h3 := tup_stacks M.stacks
  have h4 := tup_ints M.drops
  unfold keyD
  simp only [tupD, tupDs] at *
  simp [h1, h2, h3, h4]
theorem lay_map {α : Type} {f : α → PyData} : ∀ {l : List α}, (∀ x ∈ l, (f x).canLay0 = true) → PyData.canLayAll0 (l.map f) = true
  | [], _ => rfl
  | x :: r, h => by
    rw [List.map_cons]
    simp only [PyData.canLayAll0, h x List.mem_cons_self, lay_map fun y hy => h y (List.mem_cons_of_mem _ hy), Bool.and_self]
theorem dep_map {α : Type} {f : α → PyData} {n : Nat} : ∀ {l : List α}, (∀ x ∈ l, (f x).depth ≤ n) → PyData.depthAll (l.map f) ≤ n
  | [], _ => Nat.zero_le _
  | x :: r, h => by
    rw [List.map_cons]
    simp only [PyData.depthAll]
    have h1 := h x List.mem_cons_self
    have h2 := dep_map (f := f) fun y hy => h y (List.mem_cons_of_mem _ hy)
    omega
def KeyOk (M : Bk) : Prop := SeqAt.shaped (keyD M) = true
theorem Gd.key {zs : List Str} {D : Md} {k : Nat} (h : Gd zs D k) (nz : NamesOk zs) : KeyOk (bkOf zs D) := by
  have ln : ∀ n : Str × Int, (noteD n).depth = 1 := fun n => by simp [noteD, PyData.depth, PyData.depthAll]
  have ls : ∀ l, (stackD l).depth ≤ 2 := fun l => by
    unfold stackD notesD
    simp only [PyData.depth]
    have := dep_map (f := noteD) (n := 1) (l := l) fun n _ => Nat.le_of_eq (ln n)
    omega
  have c1 : PyData.canLayAll0 (zs.map .str) = true := (nice_names nz.nm).cl
  have c2 : ∀ l : List Int, PyData.canLayAll0 (l.map .int) = true := fun l => lay_map fun x _ => by simp only [PyData.canLay0]
  have c3 : PyData.canLayAll0 (D.notes.map stackD) = true := lay_map fun l hl => by
    unfold stackD
    simp only [PyData.canLay0]
    exact (nice_notes nz.nm (h.nt l hl)).cl
  unfold KeyOk SeqAt.shaped
  have ec : (keyD (bkOf zs D)).canLay0 = true := by
    show (PyData.tuple [.tuple (zs.map .str), .tuple (D.given.map .int), .tuple (D.notes.map stackD), .tuple (D.fallen.map .int)]).canLay0 = true
    simp only [PyData.canLay0, PyData.canLayAll0, c1, c2, c3, Bool.and_self]
  have ed : (keyD (bkOf zs D)).depth ≤ 64 := by
    show (PyData.tuple [.tuple (zs.map .str), .tuple (D.given.map .int), .tuple (D.notes.map stackD), .tuple (D.fallen.map .int)]).depth ≤ 64
    simp only [PyData.depth, PyData.depthAll]
    have d1 := dep_map (f := PyData.str) (n := 0) (l := zs) fun _ _ => by simp only [PyData.depth]; omega
    have d2 := dep_map (f := PyData.int) (n := 0) (l := D.given) fun _ _ => by simp only [PyData.depth]; omega
    have d3 := dep_map (f := stackD) (n := 2) (l := D.notes) fun l _ => ls l
    have d4 := dep_map (f := PyData.int) (n := 0) (l := D.fallen) fun _ _ => by simp only [PyData.depth]; omega
    omega
  rw [ec, decide_eq_true ed]
  rfl
/-- an elder book and its key -/
def Elder (K : PySem.W.Frag) (C : Addr) (H : Hp) (v : V) : Prop := ∃ t b M kv, v = .ref t ∧ SqT K H t [.ref b, kv] ∧ BookAt K C H b M ∧ KeyOk M ∧ Dt K H kv (keyD M)
theorem Elder.keep {K : PySem.W.Frag} {C : Addr} {H H' : Hp} {v : V} (h : Elder K C H v) (k : Kp H H') : Elder K C H' v := by
  obtain ⟨t, b, M, kv, rfl, q, hb, ko, dk⟩ := h
  refine ⟨t, b, M, kv, rfl, ?_, hb.keep k, ko, Dt.keep k _ (tup_key M) dk⟩
  rcases q with (q | ⟨o, q⟩) | q
  · exact .inl (.inl (k _ _ q trivial))
  · exact .inl (.inr ⟨o, k _ _ q trivial⟩)
  · exact .inr q
theorem But.kpP {p : Addr} {H H' : Hp} (b : But p H H') (hp : Pot H p) : Kp H H' := by
  obtain ⟨x, y, e, _⟩ := hp
  exact b.kp e
theorem kp_same {H H' : Hp} (s : Same H H') : Kp H H' := fun b o e _ => s b o e
theorem mem_cut {xs : List V} {lo hi : Option Int} {v : V} (h : v ∈ cutV xs lo hi) : v ∈ xs := by
  unfold cutV at h
  exact List.mem_of_mem_drop (List.mem_of_mem_take h)
theorem op_eqS {X : Cx} {K : PySem.W.Frag} (e : X.K = K) (hu : X.A.units + 64 < cLine) : OpR X (compareOp .Eq) (rEqD K) := by
  subst e
  exact op_eqD hu
theorem len_zero : ∀ (L : List (List (Str × Int) × Int)), (∀ p ∈ L, p.2 = 0 ∧ ∀ n ∈ p.1, 1 ≤ n.2) → (L.flatMap fun p => leftN p.1 p.2).length = (L.map fun p => p.1.length).sum
  | [], _ => rfl
  | p :: r, h => by
    obtain ⟨e, hn⟩ := h p List.mem_cons_self
    have ih := len_zero r fun q hq => h q (List.mem_cons_of_mem _ hq)
    rw [List.flatMap_cons, List.length_append, ih, e, left_zero hn]
    rfl
theorem Gd.len {zs : List Str} {D : Md} {k : Nat} (h : Gd zs D k) (ln : D.notes.length = zs.length) : lenM (bkOf zs D) = (D.notes.map List.length).sum := by
  show (((D.notes.zip D.fallen).take zs.length).flatMap fun p => leftN p.1 p.2).length = _
  have lf : D.fallen.length = zs.length := by
    rw [h.zf]
    exact List.length_replicate
  rw [List.take_of_length_le (by rw [List.length_zip]; omega), len_zero _ fun p hp => ?_]
  · have : (D.notes.zip D.fallen).map (fun p => p.1.length) = ((D.notes.zip D.fallen).map Prod.fst).map List.length := by
      rw [List.map_map]
      rfl
    rw [this, List.map_fst_zip (by omega)]
  · obtain ⟨h1, h2⟩ := List.of_mem_zip hp
    rw [h.zf] at h2
    exact ⟨List.eq_of_mem_replicate h2, fun n hn => (h.nt _ h1 n hn).2.1⟩
/-- the model behind some deeds -/
def mdAt (zs : List Str) (ds : List Deed) : Md := ds.foldl (doneD zs) (newMd zs.length)
theorem done_lens (zs : List Str) (D : Md) (d : Deed) : (doneD zs D d).given.length = D.given.length ∧ (doneD zs D d).notes.length = D.notes.length := by
  cases d with
  | give z n => exact ⟨List.length_set, rfl⟩
  | put z y n => exact ⟨rfl, List.length_set⟩
theorem md_good (zs : List Str) : ∀ (ds : List Deed), (∀ d ∈ ds, d.Ok zs) → ds.length ≤ 60 → ∀ (D : Md) (k : Nat), Gd zs D k → D.given.length = zs.length → D.notes.length = zs.length → k + ds.length ≤ 60 →
    Gd zs (ds.foldl (doneD zs) D) (k + ds.length)
  | [], _, _, D, k, g, _, _, _ => g
  | d :: ds, h, hl, D, k, g, lg, ln, hk => by
    rw [List.length_cons] at hl hk
    obtain ⟨a, b⟩ := done_lens zs D d
    have := md_good zs ds (fun e he => h e (List.mem_cons_of_mem _ he)) (by omega) (doneD zs D d) (k + 1) (g.done (h d List.mem_cons_self) (by omega) ln lg) (by rw [a, lg]) (by rw [b, ln]) (by omega)
    rw [List.length_cons, Nat.add_comm ds.length 1, ← Nat.add_assoc]
    exact this
theorem md_at_good {zs : List Str} {ds : List Deed} (h : ∀ d ∈ ds, d.Ok zs) (hl : ds.length ≤ 60) : Gd zs (mdAt zs ds) ds.length := by
  have := md_good zs ds h hl (newMd zs.length) 0 Gd.new List.length_replicate List.length_replicate (by omega)
  rw [Nat.zero_add] at this
  exact this
end Rc

namespace Rc
open PySem PySem.Spec PyProof.Rows L2 RZ
theorem md_ext {A B : Md} (h1 : A.given = B.given) (h2 : A.fallen = B.fallen) (h3 : A.notes = B.notes) : A = B := by
  cases A
  cases B
  cases h1
  cases h2
  cases h3
  rfl
section
variable {K : PySem.W.Frag} {H : Hp} {zs : List Str} {a : MdA} {D : Md}
theorem ModelAt.row_some (h : ModelAt K H zs a D) {r : Addr} (m : r ∈ a.rs) : ∃ xs, H r = some (.lst xs) := by
  obtain ⟨i, hi, e'⟩ := List.getElem_of_mem m
  have hn : i < D.notes.length := by
    rw [h.ln, ← h.lr]
    exact hi
  obtain ⟨xs, e1, _⟩ := h.rows i r _ (by rw [List.getElem?_eq_getElem hi, e']) (List.getElem?_eq_getElem hn)
  exact ⟨xs, e1⟩
theorem ModelAt.nofoot (h : ModelAt K H zs a D) {c : Addr} (hc : H c = none) : ¬ a.Foot c := fun f => by
  rcases f with f | f
  · rw [f, h.hg] at hc
    cases hc
  · obtain ⟨xs, e⟩ := h.row_some f
    rw [hc] at e
    cases e
theorem MdA.Foot.has {b : Addr} (h : a.Foot b) : a.Has b := h.elim (fun e => .inr (.inr (.inl e))) (fun e => .inr (.inr (.inr (.inr (.inr e)))))
/-- another sum given -/
theorem ModelAt.setG (hM : ModelAt K H zs a D) {j : Nat} (g : Int) : ModelAt K (upd H a.dg (.dK (dct zs ((D.given.set j g).map V.int)))) zs a { D with given := D.given.set j g } := by
  have bf' : ButF a H (upd H a.dg (.dK (dct zs ((D.given.set j g).map V.int)))) := fun b o nf e => by
    rw [upd_ne (fun z => nf (.inl z))]
    exact e
  have rne : ∀ r ∈ a.rs, r ≠ a.dg := fun r hr z => by
    obtain ⟨xs, e1⟩ := hM.row_some hr
    rw [z, hM.hg] at e1
    cases e1
  have lone : a.lo ≠ a.dg := fun z => by
    have := hM.ho
    rw [z, hM.hg] at this
    cases this
  refine ⟨?_, ?_, ?_, ?_, ?_, fun i r l e1 e2 => ?_, hM.nd, hM.olo, hM.ogf, hM.ogn, hM.ogm, hM.omn, hM.zn, ?_, hM.lf, hM.ln, hM.lr⟩
  · rw [upd_ne hM.ogm.symm]
    exact hM.hm
  · rw [upd_ne lone]
    exact hM.ho
  · rw [upd_same]
  · rw [upd_ne hM.ogf.symm]
    exact hM.hf
  · rw [upd_ne hM.ogn.symm]
    exact hM.hn
  · obtain ⟨xs, e3, d3⟩ := hM.rows i r l e1 e2
    refine ⟨xs, ?_, DtAll.keepT (bf'.kt hM) _ (tup_notes l) d3⟩
    rw [upd_ne (rne r (List.mem_of_getElem? e1))]
    exact e3
  · show (D.given.set _ _).length = _
    rw [List.length_set]
    exact hM.lg
theorem nodup_set {α : Type} : ∀ {l : List α} {j : Nat} {r : α}, l.Nodup → r ∉ l → (l.set j r).Nodup
  | [], _, _, nd, _ => nd
  | x :: t, 0, r, nd, n => List.nodup_cons.mpr ⟨fun h => n (List.mem_cons_of_mem _ h), (List.nodup_cons.mp nd).2⟩
  | x :: t, j + 1, r, nd, n => by
    obtain ⟨h1, h2⟩ := List.nodup_cons.mp nd
    refine List.nodup_cons.mpr ⟨fun h => ?_, nodup_set h2 fun h => n (List.mem_cons_of_mem _ h)⟩
    rcases List.mem_or_eq_of_mem_set h with h | h
    · exact h1 h
    · exact n (by rw [h]; exact List.mem_cons_self)
theorem ModelAt.ofn (h : ModelAt K H zs a D) (n0 : 1 ≤ zs.length) : a.df ≠ a.dn := fun z => by
  have e := h.hf
  rw [z, h.hn] at e
  have e1 : dct zs (a.rs.map V.ref) = dct zs (D.fallen.map V.int) := HO.dK.inj (Option.some.inj e)
  have l1 := h.lr
  have l2 := h.lf
  match zs, a.rs, D.fallen, n0, l1, l2, e1 with
  | z :: r, x :: t, y :: u, _, _, _, e1 => 
    rw [List.map_cons, List.map_cons, dct_cons, dct_cons] at e1
    cases e1
/-- another row of notes -/
theorem ModelAt.setN (hM : ModelAt K H zs a D) {j : Nat} {r : Addr} {xs : List V} {l : List (Str × Int)} (hr : H r = some (.lst xs)) (hd : DtAll K H xs (notesD l)) (nr : r ∉ a.rs) (nlo : a.lo ≠ r) (n0 : 1 ≤ zs.length) :
    ModelAt K (upd H a.dn (.dK (dct zs ((a.rs.set j r).map V.ref)))) zs { a with rs := a.rs.set j r } { D with notes := D.notes.set j l } := by
  have kt : KT H (upd H a.dn (.dK (dct zs ((a.rs.set j r).map V.ref)))) := kt_upd hM.hn fun z => z
  have lne : ∀ {c : Addr} {ys : List V}, H c = some (.lst ys) → c ≠ a.dn := fun {c ys} e z => by
    rw [z, hM.hn] at e
    cases e
  refine ⟨?_, ?_, ?_, ?_, ?_, fun i r' l' e1 e2 => ?_, nodup_set hM.nd nr, fun m => ?_, hM.ogf, hM.ogn, hM.ogm, hM.omn, hM.zn, hM.lg, hM.lf, ?_, ?_⟩
  · show upd H a.dn _ a.m = _
    rw [upd_ne hM.omn]
    exact hM.hm
  · show upd H a.dn _ a.lo = _
    rw [upd_ne (lne hM.ho)]
    exact hM.ho
  · show upd H a.dn _ a.dg = _
    rw [upd_ne hM.ogn]
    exact hM.hg
  · show upd H a.dn _ a.df = _
    rw [upd_ne (hM.ofn n0)]
    exact hM.hf
  · exact upd_same
  · have e1' : (a.rs.set j r)[i]? = some r' := e1
    have e2' : (D.notes.set j l)[i]? = some l' := e2
    by_cases hij : j = i
    · subst hij
      obtain ⟨h1, k1⟩ := List.getElem?_eq_some_iff.mp e1'
      obtain ⟨h2, k2⟩ := List.getElem?_eq_some_iff.mp e2'
      rw [List.getElem_set_self] at k1 k2
      subst k1 k2
      refine ⟨xs, ?_, DtAll.keepT kt _ (tup_notes _) hd⟩
      show upd H a.dn _ _ = _
      rw [upd_ne (lne hr)]
      exact hr
    · rw [List.getElem?_set_ne hij] at e1' e2'
      obtain ⟨ys, e3, d3⟩ := hM.rows i r' l' e1' e2'
      refine ⟨ys, ?_, DtAll.keepT kt _ (tup_notes _) d3⟩
      show upd H a.dn _ _ = _
      rw [upd_ne (lne e3)]
      exact e3
  · have m' : a.lo ∈ a.rs.set j r := m
    rcases List.mem_or_eq_of_mem_set m' with m' | m'
    · exact hM.olo m'
    · exact nlo m'
  · show (D.notes.set _ _).length = _
    rw [List.length_set]
    exact hM.ln
  · show (a.rs.set _ _).length = _
    rw [List.length_set]
    exact hM.lr
end
end Rc

namespace Rc
open PySem PySem.Spec PyProof.Rows L2 RZ
/-! ### trails -/
def trailF (nx : Str → Option Str) : Nat → List Str → Option Str → List Str
  | 0, acc, _ => acc
  | _ + 1, acc, none => acc
  | k + 1, acc, some y => if y ∈ acc then acc else trailF nx k (acc ++ [y]) (nx y)
theorem trailF_none (nx : Str → Option Str) (k : Nat) (acc : List Str) : trailF nx k acc none = acc := by cases k <;> rfl
theorem trailF_in {nx : Str → Option Str} {k : Nat} {acc : List Str} {y : Str} (h : y ∈ acc) : trailF nx k acc (some y) = acc := by
  cases k with
  | zero => rfl
  | succ k =>
    simp only [trailF]
    rw [if_pos h]
theorem trailF_out {nx : Str → Option Str} {k : Nat} {acc : List Str} {y : Str} (h : y ∉ acc) : trailF nx (k + 1) acc (some y) = trailF nx k (acc ++ [y]) (nx y) := by
  simp only [trailF]
  rw [if_neg h]
def trailM (zs : List Str) (nx : Str → Option Str) (z : Str) : List Str := trailF nx zs.length [z] (nx z)
/-- a walk under way -/
structure TrailAt (zs : List Str) (nx : Str → Option Str) (z : Str) (k : Nat) (acc : List Str) (d : Option Str) : Prop where
  fin : trailF nx k acc d = trailM zs nx z
  nd : acc.Nodup
  sub : ∀ y ∈ acc, y ∈ zs
  len : zs.length ≤ acc.length + k
  last : ∃ ini y, acc = ini ++ [y] ∧ d = nx y
  first : ∃ r, acc = z :: r
def Leads (zs : List Str) (nx : Str → Option Str) : Prop := ∀ y x, nx y = some x → x ∈ zs
theorem TrailAt.start {zs : List Str} {nx : Str → Option Str} {z : Str} (h : z ∈ zs) : TrailAt zs nx z zs.length [z] (nx z) :=
  ⟨rfl, by simp, fun y hy => by rw [List.mem_singleton.mp hy]; exact h, by simp, ⟨[], z, rfl, rfl⟩, ⟨[], rfl⟩⟩
theorem TrailAt.step {zs : List Str} {nx : Str → Option Str} {z : Str} {k : Nat} {acc : List Str} {y : Str} (t : TrailAt zs nx z k acc (some y)) (c : Leads zs nx) (h : y ∉ acc) : ∃ k', k = k' + 1 ∧ TrailAt zs nx z k' (acc ++ [y]) (nx y) := by
  have hy : y ∈ zs := by
    obtain ⟨_, x, _, e⟩ := t.last
    exact c x y e.symm
  have nd : (acc ++ [y]).Nodup := by
    rw [List.nodup_append]
    refine ⟨t.nd, by simp, fun a ha b hb e => ?_⟩
    rw [List.mem_singleton.mp hb] at e
    exact h (e ▸ ha)
  have sub : ∀ x ∈ acc ++ [y], x ∈ zs := fun x hx => by
    rcases List.mem_append.mp hx with hx | hx
    · exact t.sub x hx
    · rw [List.mem_singleton.mp hx]
      exact hy
  have ll := nodup_le _ _ nd sub
  rw [List.length_append] at ll
  have l1 : [y].length = 1 := rfl
  have tl := t.len
  cases k with
  | zero => omega
  | succ k =>
    refine ⟨k, rfl, ?_, nd, sub, by rw [List.length_append]; omega, ⟨acc, y, rfl, rfl⟩, ?_⟩
    · rw [← t.fin, trailF_out h]
    · obtain ⟨r, e⟩ := t.first
      exact ⟨r ++ [y], by rw [e]; rfl⟩
theorem TrailAt.stopN {zs : List Str} {nx : Str → Option Str} {z : Str} {k : Nat} {acc : List Str} (t : TrailAt zs nx z k acc none) : acc = trailM zs nx z := by
  rw [← t.fin, trailF_none]
theorem TrailAt.stopI {zs : List Str} {nx : Str → Option Str} {z : Str} {k : Nat} {acc : List Str} {y : Str} (t : TrailAt zs nx z k acc (some y)) (h : y ∈ acc) : acc = trailM zs nx z := by
  rw [← t.fin, trailF_in h]
/-- where a walk has ended -/
structure Ended (zs : List Str) (nx : Str → Option Str) (z : Str) (d : Option Str) : Prop where
  nd : (trailM zs nx z).Nodup
  sub : ∀ y ∈ trailM zs nx z, y ∈ zs
  last : ∃ ini y, trailM zs nx z = ini ++ [y] ∧ d = nx y
  first : ∃ r, trailM zs nx z = z :: r
  back : ∀ y, d = some y → y ∈ trailM zs nx z
theorem TrailAt.ended {zs : List Str} {nx : Str → Option Str} {z : Str} {k : Nat} {acc : List Str} {d : Option Str} (t : TrailAt zs nx z k acc d) (h : d = none ∨ ∃ y, d = some y ∧ y ∈ acc) : acc = trailM zs nx z ∧ Ended zs nx z d := by
  have e : acc = trailM zs nx z := by
    rcases h with rfl | ⟨y, rfl, h⟩
    · exact t.stopN
    · exact t.stopI h
  refine ⟨e, ?_⟩
  refine ⟨by rw [← e]; exact t.nd, by rw [← e]; exact t.sub, by rw [← e]; exact t.last, by rw [← e]; exact t.first, fun y hy => ?_⟩
  rw [← e]
  rcases h with rfl | ⟨x, rfl, h⟩
  · cases hy
  · cases hy
    exact h
theorem walk_ends {zs : List Str} {nx : Str → Option Str} {z : Str} (c : Leads zs nx) : ∀ (k : Nat) (acc : List Str) (d : Option Str), TrailAt zs nx z k acc d → ∃ d', Ended zs nx z d' := fun k => by
  induction k with
  | zero =>
    intro acc d t
    cases d with
    | none => exact ⟨_, (t.ended (.inl rfl)).2⟩
    | some y =>
      by_cases h : y ∈ acc
      · exact ⟨_, (t.ended (.inr ⟨y, rfl, h⟩)).2⟩
      · obtain ⟨k', e, _⟩ := t.step c h
        cases e
  | succ k ih =>
    intro acc d t
    cases d with
    | none => exact ⟨_, (t.ended (.inl rfl)).2⟩
    | some y =>
      by_cases h : y ∈ acc
      · exact ⟨_, (t.ended (.inr ⟨y, rfl, h⟩)).2⟩
      · obtain ⟨k', e, t'⟩ := t.step c h
        cases e
        exact ih _ _ t'
/-- the last person of the trail, and what is due of it -/
def lastM (zs : List Str) (nx : Str → Option Str) (z : Str) : Str := (trailM zs nx z).getLastD z
theorem lastM_eq {zs : List Str} {nx : Str → Option Str} {z y : Str} {ini : List Str} (h : trailM zs nx z = ini ++ [y]) : lastM zs nx z = y := by
  unfold lastM
  rw [h]
  simp
theorem trail_ended {zs : List Str} {nx : Str → Option Str} {z : Str} (c : Leads zs nx) (h : z ∈ zs) : Ended zs nx z (nx (lastM zs nx z)) := by
  obtain ⟨d, e⟩ := walk_ends c _ _ _ (TrailAt.start (nx := nx) h)
  obtain ⟨ini, y, e1, e2⟩ := e.last
  rw [lastM_eq e1, ← e2]
  exact e
theorem Ended.det {zs : List Str} {nx : Str → Option Str} {z : Str} {d : Option Str} (e : Ended zs nx z d) : d = nx (lastM zs nx z) := by
  obtain ⟨ini, y, e1, e2⟩ := e.last
  rw [lastM_eq e1, e2]
/-! ### rings -/
def firstM (zs T : List Str) : Str := (zs.find? fun x => decide (x ∈ T)).getD Str.empty
def ringM (zs : List Str) (nx : Str → Option Str) (z : Str) : Option (List Str) :=
  if nx (lastM zs nx z) = some z then
    some ((trailM zs nx z).drop ((trailM zs nx z).idxOf (firstM zs (trailM zs nx z))) ++ (trailM zs nx z).take ((trailM zs nx z).idxOf (firstM zs (trailM zs nx z))))
  else none
/-- at whom the trail ends -/
def endM (zs : List Str) (nx : Str → Option Str) (z : Str) : Option Str := if nx (lastM zs nx z) = none then some (lastM zs nx z) else none
theorem find_some {zs T : List Str} {z : Str} (h1 : z ∈ zs) (h2 : z ∈ T) : ∃ f r, (zs.filter fun x => decide (x ∈ T)) = f :: r ∧ firstM zs T = f ∧ f ∈ T ∧ f ∈ zs := by
  have hm : z ∈ zs.filter fun x => decide (x ∈ T) := List.mem_filter.mpr ⟨h1, decide_eq_true h2⟩
  cases e : zs.filter fun x => decide (x ∈ T) with
  | nil =>
    rw [e] at hm
    cases hm
  | cons f r =>
    have hf : f ∈ zs.filter fun x => decide (x ∈ T) := by
      rw [e]
      exact List.mem_cons_self
    obtain ⟨a, b⟩ := List.mem_filter.mp hf
    refine ⟨f, r, rfl, ?_, of_decide_eq_true b, a⟩
    unfold firstM
    rw [← List.head?_filter, e]
    rfl
/-- the first by its least place -/
theorem first_min {zs T : List Str} {m : Nat} {z : Str} (nd : zs.Nodup) (hz : zs[m]? = some z) (hT : z ∈ T) (hm : ∀ y ∈ T, m ≤ zs.idxOf y) : firstM zs T = z := by
  unfold firstM
  have hl : m < zs.length := (List.getElem?_eq_some_iff.mp hz).1
  have ez : zs[m] = z := (List.getElem?_eq_some_iff.mp hz).2
  have e : zs.find? (fun x => decide (x ∈ T)) = some z := by
    rw [List.find?_eq_some_iff_getElem]
    refine ⟨decide_eq_true hT, m, hl, ez, fun j hj => ?_⟩
    have hjl : j < zs.length := by omega
    have : ¬ zs[j] ∈ T := fun c => by
      have h1 := hm _ c
      rw [nd.idxOf_getElem j hjl] at h1
      omega
    simp [this]
  rw [e]
  rfl
/-! ### due notes -/
def dueD : Option (Str × Int) → PyData
  | none => .none
  | some n => noteD n
theorem tup_due (o : Option (Str × Int)) : tupD (dueD o) = true := by
  cases o with
  | none => rfl
  | some n => exact tup_note n
def duesM (M : Bk) : List (Option (Str × Int)) := (M.stacks.zip M.drops).map fun p => (leftN p.1 p.2).head?
def nxOf (zs : List Str) (os : List (Option (Str × Int))) (y : Str) : Option Str := (os.getD (zs.idxOf y) none).map (·.1)
def nxV : Option Str → V
  | none => .non
  | some y => .str y
theorem nxV_non {o : Option Str} : nxV o = .non ↔ o = none := by
  cases o with
  | none => simp [nxV]
  | some y => simp [nxV]
theorem leftN_to : ∀ {l : List (Str × Int)} {f : Int} {n : Str × Int}, n ∈ leftN l f → ∃ a, (n.1, a) ∈ l
  | [], _, _, h => by cases h
  | (t, a) :: r, f, n, h => by
    rw [leftN_cons] at h
    rcases List.mem_append.mp h with h | h
    · split at h
      · rw [List.mem_singleton.mp h]
        exact ⟨a, List.mem_cons_self⟩
      · cases h
    · obtain ⟨b, hb⟩ := leftN_to h
      exact ⟨b, List.mem_cons_of_mem _ hb⟩
def Closed (M : Bk) : Prop := ∀ l ∈ M.stacks, ∀ n ∈ l, n.1 ∈ M.names
theorem dues_at {M : Bk} {j : Nat} {l : List (Str × Int)} {f : Int} (h1 : M.stacks[j]? = some l) (h2 : M.drops[j]? = some f) : (duesM M)[j]? = some (leftN l f).head? := by
  unfold duesM
  rw [List.getElem?_map, List.getElem?_zip_eq_some (z := (l, f)) |>.mpr ⟨h1, h2⟩]
  rfl
theorem dues_mem {M : Bk} {n : Str × Int} (h : some n ∈ duesM M) : ∃ l f, l ∈ M.stacks ∧ f ∈ M.drops ∧ n ∈ leftN l f := by
  unfold duesM at h
  obtain ⟨p, hp, e⟩ := List.mem_map.mp h
  obtain ⟨h1, h2⟩ := List.of_mem_zip hp
  exact ⟨p.1, p.2, h1, h2, List.mem_of_head? e⟩
theorem getD_mem {α : Type} {l : List (Option α)} {j : Nat} {x : α} (h : l.getD j none = some x) : some x ∈ l := by
  rw [List.getD_eq_getElem?_getD] at h
  cases e : l[j]? with
  | none =>
    rw [e] at h
    cases h
  | some y =>
    rw [e] at h
    have h' : y = some x := h
    rw [← h']
    exact List.mem_of_getElem? e
theorem Closed.leads {M : Bk} (c : Closed M) : Leads M.names (nxOf M.names (duesM M)) := fun y x h => by
  unfold nxOf at h
  obtain ⟨n, e1, e2⟩ := Option.map_eq_some_iff.mp h
  obtain ⟨l, f, hl, hf, hn⟩ := dues_mem (getD_mem e1)
  obtain ⟨a, ha⟩ := leftN_to hn
  rw [← e2]
  exact c l hl (n.1, a) ha
/-! ### what falls of a due note -/
def wholeN (l : List (Str × Int)) : Int := (l.map (·.2)).sum
theorem wholeN_nonneg {l : List (Str × Int)} (h : ∀ n ∈ l, 1 ≤ n.2) : 0 ≤ wholeN l := by
  induction l with
  | nil => exact Int.le_refl _
  | cons n r ih =>
    have := ih fun m hm => h m (List.mem_cons_of_mem _ hm)
    have h1 := h n List.mem_cons_self
    show 0 ≤ ((n :: r).map (·.2)).sum
    rw [List.map_cons, List.sum_cons]
    have e : wholeN r = (r.map (·.2)).sum := rfl
    omega
theorem wholeN_cons (n : Str × Int) (r : List (Str × Int)) : wholeN (n :: r) = n.2 + wholeN r := by
  unfold wholeN
  rw [List.map_cons, List.sum_cons]
theorem sumTo_one (z t : Str) (a : Int) (h : 0 ≤ a) : sumTo z (if 0 < a then [(t, a)] else []) = if t = z then a else 0 := by
  unfold sumTo
  by_cases h0 : 0 < a
  · rw [if_pos h0]
    by_cases hz : t = z <;> simp [hz]
  · have : a = 0 := by omega
    rw [if_neg h0, this]
    split <;> rfl
theorem sumTo_app (z : Str) (l r : List (Str × Int)) : sumTo z (l ++ r) = sumTo z l + sumTo z r := by
  unfold sumTo
  rw [List.filter_append, List.map_append, List.sum_append]
theorem sumTo_nil (z : Str) : sumTo z [] = 0 := rfl
theorem fall_one : ∀ {l : List (Str × Int)} {f m a : Int} {t : Str} {r : List (Str × Int)}, (∀ n ∈ l, 1 ≤ n.2) → 0 ≤ f → 0 ≤ m → m ≤ a → leftN l f = (t, a) :: r →
    f + m ≤ wholeN l ∧ ∀ z, sumTo z (goneN l (f + m)) = sumTo z (goneN l f) + if t = z then m else 0
  | [], _, _, _, _, _, _, _, _, _, e => by cases e
  | (t0, a0) :: r0, f, m, a, t, r, h, f0, m0, ma, e => by
    have h0 : 1 ≤ a0 := h _ List.mem_cons_self
    have hr : ∀ n ∈ r0, 1 ≤ n.2 := fun n hn => h n (List.mem_cons_of_mem _ hn)
    have wr := wholeN_nonneg hr
    rw [wholeN_cons]
    rw [leftN_cons] at e
    by_cases hf : f < a0
    · have ep : partOf a0 f = f := by
        unfold partOf
        rw [if_pos hf]
      rw [ep, if_pos hf, Int.sub_self] at e
      have e' : (t0, a0 - f) :: leftN r0 0 = (t, a) :: r := e
      injection e' with e1 e2
      injection e1 with e1 e3
      subst e1 e3
      have ep2 : partOf a0 (f + m) = f + m := by
        unfold partOf
        split <;> omega
      refine ⟨by show f + m ≤ a0 + wholeN r0; omega, fun z => ?_⟩
      rw [goneN_cons, goneN_cons, ep, ep2, Int.sub_self, Int.sub_self, gone_zero hr, List.append_nil, List.append_nil, sumTo_one z t0 _ (by omega), sumTo_one z t0 _ f0]
      split <;> omega
    · have ep : partOf a0 f = a0 := by
        unfold partOf
        rw [if_neg hf]
      have ep2 : partOf a0 (f + m) = a0 := by
        unfold partOf
        rw [if_neg (by omega)]
      rw [ep, if_neg (by omega)] at e
      have e' : leftN r0 (f - a0) = (t, a) :: r := e
      obtain ⟨i1, i2⟩ := fall_one hr (by omega) m0 ma e'
      refine ⟨by show f + m ≤ a0 + wholeN r0; omega, fun z => ?_⟩
      rw [goneN_cons, goneN_cons, ep, ep2, sumTo_app, sumTo_app, show f + m - a0 = f - a0 + m by omega, i2 z]
      omega
theorem leftN_ok {zs : List Str} : ∀ {l : List (Str × Int)} {f : Int}, (∀ n ∈ l, NoteOk zs n) → 0 ≤ f → ∀ n ∈ leftN l f, NoteOk zs n
  | [], _, _, _, n, hn => by cases hn
  | (t, a) :: r, f, h, f0, n, hn => by
    have h0 := h _ List.mem_cons_self
    have ha : 1 ≤ a ∧ a ≤ 10 ^ 58 := h0.2
    have hp : 0 ≤ partOf a f ∧ partOf a f ≤ f := by
      unfold partOf
      split <;> omega
    rw [leftN_cons] at hn
    rcases List.mem_append.mp hn with hn | hn
    · split at hn
      · rename_i c
        rw [List.mem_singleton.mp hn]
        exact ⟨h0.1, by show 1 ≤ a - partOf a f; omega, by show a - partOf a f ≤ 10 ^ 58; omega⟩
      · cases hn
    · exact leftN_ok (fun m hm => h m (List.mem_cons_of_mem _ hm)) (by omega) n hn
end Rc

namespace Rc
open PySem PySem.Spec PyProof.Rows L2 RZ
/-! ### what is let fall -/
def moreAt (ps : List (Str × Int)) (z : Str) : Int := ((ps.find? fun p => decide (p.1 = z)).map (·.2)).getD 0
def moreK (ps : List (Str × Int)) : List (Key × V) := ps.map fun p => (Sum.inr p.1, .int p.2)
def fallM (M : Bk) (ps : List (Str × Int)) : Bk := { M with drops := (M.names.zip M.drops).map fun p => p.2 + moreAt ps p.1 }
theorem more_val (z : Str) : ∀ ps : List (Str × Int), (valV (moreK ps) (Sum.inr z : Key)).getD (.int 0) = .int (moreAt ps z)
  | [] => rfl
  | p :: r => by
    have ih := more_val z r
    show (valV ((Sum.inr p.1, V.int p.2) :: moreK r) (Sum.inr z : Key)).getD (.int 0) = .int (moreAt (p :: r) z)
    unfold moreAt
    by_cases h : p.1 = z
    · rw [valV_pos (show ((Sum.inr p.1 : Key), V.int p.2).1 = Sum.inr z from congrArg Sum.inr h), List.find?_cons_of_pos (by simp [h])]
      rfl
    · rw [valV_neg (fun e => h (Sum.inr.inj e)), ih, List.find?_cons_of_neg (by simp [h])]
      rfl
structure FallOk (M : Bk) (ps : List (Str × Int)) : Prop where
  kd : ∀ p ∈ ps, ∃ (j : Nat) (l : List (Str × Int)) (f : Int), M.names[j]? = some p.1 ∧ M.stacks[j]? = some l ∧ M.drops[j]? = some f ∧ 0 ≤ p.2 ∧ f + p.2 ≤ wholeN l
  cs : ∀ (j : Nat) (z : Str), M.names[j]? = some z → 0 ≤ cashM (fallM M ps) j z
theorem fall_ok {M : Bk} (ok : M.Ok) (ps : List (Str × Int)) : (fallM M ps).Ok := by
  refine ⟨ok.n0, ok.n1, ok.nd, ok.nm, ok.lg, ok.ls, ?_, ok.many⟩
  show ((M.names.zip M.drops).map _).length = _
  rw [List.length_map, List.length_zip, ok.ld, Nat.min_self]
  rfl
theorem same_unlock {H H' : Hp} {d : Addr} {od : Obj} {u : HO} (h : H d = some u) (s : Same (upd H d (.frz od u)) H') : Same H (upd H' d u) := fun b o e => by
  by_cases c : b = d
  · rw [c, h] at e
    rw [c, upd_same]
    exact e
  · rw [upd_ne c]
    exact s b o (by rw [upd_ne c]; exact e)
theorem kp_lock {H : Hp} {d : Addr} {od : Obj} {kvs : List (Key × V)} (h : H d = some (.dK kvs)) : Kp H (upd H d (.frz od (.dK kvs))) := fun b o e f => by
  have nb : b ≠ d := fun z => by
    rw [z, h] at e
    cases e
    exact f
  rw [upd_ne nb]
  exact e
section
variable {P : Program} {w : World} {K : PySem.W.Frag} {mg : Str → Option Value} {base : Heap}
/-! ### whole_of -/
abbrev sWhOf : Stmt := inBook 9
abbrev nWhOf : List Str := ["self", "who", "to", "amount"]
theorem scWhOf : FnScope nWhOf ["self", "who"] (defScope sWhOf) := ⟨rfl, rfl, rfl, by decide +kernel, rfl, by decide +kernel, by decide +kernel⟩
theorem ok_whOf {f fn C : Addr} {fd fdn : FuncData} (F : Fun K "whole_of" "Book.whole_of" sWhOf f fd) (T : ClsF K C) (B3 : Blt3 mg) (NT : HasM P w K mg base C 4 "notes" ["self", "who"] (spRow K C fun l _ => l) fn fdn) :
    FnOk P w K mg base CX0 5 f fd ["self", "who"] (spCalc K C fun M j _ => wholeN (M.stacks.getD j [])) := by
  refine F.ok scWhOf (fun vs H Q E h => ?_) (fun cdv A outer s H vs Q E hr h => ?_)
  · obtain ⟨_, _, _, _, rfl, _⟩ := h
    rfl
  · obtain ⟨b, M, z, j, rfl, hb, ok, ej, q⟩ := h
    refine ⟨_, pss_one (ps_ret (pe_callB (cr_sum rfl) (by rfl) B3.sum (by decide +kernel) (pa_cons
          (pe_lc (own := [("to", 2), ("amount", 3)]) (g := gTup K 2 (gCons (gName 2) (gCons (gName 3) gNil))) (tt := tYes) rfl scWhOf.nd (pi_list (pe_meth (pv 0) T.cl NT.m NT.ok hr NT.b .nil pass0 (pa_cons (pv 1) pa_nil))) (blkOk_by (N := nWhOf) (sc := defScope sWhOf) (own := [("to", 2), ("amount", 3)]) (by decide +kernel))
            (fun _ _ _ _ _ => pg_tup rfl (pgs_cons (pg_name (i := 2) scWhOf.nd rfl (.inl rfl) (hf := .inr rfl)) (pgs_cons (pg_name (i := 3) scWhOf.nd rfl (.inl rfl) (hf := .inr rfl)) pgs_nil)))
            (fun _ _ _ _ _ => pts_nil) (fun _ _ _ _ _ => pv 3)) pa_nil))), ?_⟩
    obtain ⟨g, l, d, eg, el, ed, ll⟩ := ok.at_ ej
    obtain ⟨dx, tn, on, wg, ws, wd, e, h1, hn, h2, h3, h4⟩ := hb.ex
    refine ⟨.ref b, rfl, b, dx, _, rfl, e, bf_no (NoF.mk' (by decide +kernel)), .str z, rfl, b, M, z, j, l, d, rfl, hb, ok.names, ej, el, ed, by omega, fun r xs H1 s1 nr hr1 dr => ⟨r, rfl, ⟨_, .inl (.inl hr1)⟩, fun D nD => ?_⟩⟩
    have lx : xs.length = l.length := by
      rw [dr.len]
      unfold notesD
      rw [List.length_map]
    refine lc_it (walk_list (K := K) (a := r) (xs := xs)) (fun i H' => Same H1 H' ∧ H' D = some (.lst ((l.take i).map fun n => .int n.2))) ⟨same_upd nD, upd_same⟩ (fun i H' _ hP => hP.1.seq (.inl (.inl hr1)))
      (fun i x H2' H2 hi hP hY => ?_) (fun H2 hP => ?_)
    · obtain ⟨rfl, hx⟩ := hY
      obtain ⟨hil, dn⟩ := (DtAll.same hP.1 _ dr).notes_get hx
      obtain ⟨na, rfl, qn⟩ := note_inv dn
      refine ⟨na, _, rfl, qn, rfl, _, _, rfl, _, _, rfl, rfl, rfl, _, rfl, _, hP.2, ?_, fun c o ec => ?_, ?_⟩
      · rw [List.length_map, List.length_take]
        exact small1000 (by omega)
      · rw [upd_ne (ne_of_none ec nD)]
        exact hP.1 c o ec
      · rw [upd_same, take_succ hil, List.map_append]
        rfl
    · refine ⟨D, l.map (·.2), rfl, .inl (.inl ?_), ?_⟩
      · rw [hP.2, lx, List.take_length, List.map_map]
        rfl
      have qq : Q (V.int (wholeN (M.stacks.getD j []))) H2 := q H2 (s1.trans hP.1)
      rw [getD_of el] at qq
      exact qq
/-! ### may_fall -/
abbrev sMayF : Stmt := inBook 14
abbrev nMayF : List Str := ["self", "more", "who", "much"]
theorem scMayF : FnScope nMayF ["self", "more"] (defScope sMayF) := ⟨rfl, rfl, rfl, by decide +kernel, rfl, by decide +kernel, by decide +kernel⟩
def spMayF (K : PySem.W.Frag) (C : Addr) : Sp := fun vs H Q _ => ∃ (b d : Addr) (M : Bk) (ps : List (Str × Int)), vs = [.ref b, .ref d] ∧ BookAt K C H b M ∧ M.Ok ∧ H d = some (.dK (moreK ps)) ∧ FallOk M ps ∧ ∀ H', Same H H' → Q (.bl true) H'
theorem ok_mayF {f f1 f2 f3 f4 C : Addr} {fd fd1 fd2 fd3 fd4 : FuncData} (F : Fun K "may_fall" "Book.may_fall" sMayF f fd) (T : ClsF K C) (B : Blt mg) (B3 : Blt3 mg)
    (HS : HasM P w K mg base C 2 "has" ["self", "who"] (spHas K C) f1 fd1) (WH : Has P w K mg base 1 "is_whole" ["thing"] (spBool K wholeD) f2 fd2)
    (FL : HasM P w K mg base C 4 "fallen" ["self", "who"] (spNum K C Bk.drops) f3 fd3) (WO : HasM P w K mg base C 5 "whole_of" ["self", "who"] (spCalc K C fun M j _ => wholeN (M.stacks.getD j [])) f4 fd4) :
    FnOk P w K mg base CX0 6 f fd ["self", "more"] (spMayF K C) := by
  refine F.ok scMayF (fun vs H Q E h => ?_) (fun cdv A outer s H vs Q E hr h => ?_)
  · obtain ⟨_, _, _, _, rfl, _⟩ := h
    rfl
  · obtain ⟨b, d, M, ps, rfl, hb, ok, hd, fo, q⟩ := h
    have hr1 := hr.mono (show 1 ≤ 5 by decide)
    have hr2 := hr.mono (show 2 ≤ 5 by decide)
    have hr4 := hr.mono (show 4 ≤ 5 by decide)
    refine ⟨_, pss_cons (ps_if (pt_not (pt_val (pe_callB call_isi (by rfl) B.isi (by decide +kernel) (pa_cons (pv 1) (pa_cons (pe_bltn (v := .ty "dict") (by rfl) B3.dict (by decide +kernel) rfl) pa_nil))))) (pss_one (ps_ret pe_bl)) pss_nil)
      (pss_cons (ps_lock (ps_for PassesOwn.never rfl (pi_items (pv 1)) (pg_tup rfl (pgs_cons (pg_name (i := 2) scMayF.nd rfl (.inl rfl)) (pgs_cons (pg_name (i := 3) scMayF.nd rfl (.inl rfl)) pgs_nil)))
        (pss_cons (ps_if (PW.pt (pw_or (pt_not (pt_val (pe_meth (pv 0) T.cl HS.m HS.ok hr2 HS.b .nil pass0 (pa_cons (pv 2) pa_nil)))) (pw_or (pt_not (pt_val (pe_call WH.ok hr1 (by rfl) WH.g WH.kp WH.b .nil pass0 (pa_cons (pv 3) pa_nil))))
          (pw_or1 (pt_cmpR op_lt (pv 3) pe_int (nomark _)))))) (pss_one (ps_ret pe_bl)) pss_nil)
        (pss_one (ps_if (pt_cmpR op_gt (pe_op op_add (pe_meth (pv 0) T.cl FL.m FL.ok hr4 FL.b .nil pass0 (pa_cons (pv 2) pa_nil)) (pv 3)) (pe_meth (pv 0) T.cl WO.m WO.ok hr WO.b .nil pass0 (pa_cons (pv 2) pa_nil)) (nomark _)) (pss_one (ps_ret pe_bl)) pss_nil)))))
      (pss_one (ps_ret pe_bl))), ?_⟩
    refine ⟨.ref d, rfl, _, .ty "dict", _, _, true, rfl, .ty "dict", .base (.dK hd), kit_ty (by decide +kernel), _, rfl, iteF ?_⟩
    refine ⟨d, _, hd, trivial, fun od => ?_⟩
    have hbL := hb.keep (kp_lock (od := od) hd)
    obtain ⟨dx, tn, on, wg, ws, wd, e, h1, hn, h2, h3, h4⟩ := hbL.ex
    have hdL : upd H d (.frz od (.dK (moreK ps))) d = some (.frz od (.dK (moreK ps))) := upd_same
    have un : ∀ H', Same (upd H d (.frz od (.dK (moreK ps)))) H' → Same H (upd H' d (.dK (moreK ps))) := fun H' s' => same_unlock hd s'
    generalize upd H d (.frz od (.dK (moreK ps))) = HL at hbL e h1 h2 h3 h4 hdL un
    refine ⟨.ref d, rfl, d, od, _, rfl, hdL, ?_⟩
    refine for_it (walk_items (kvs := moreK ps)) (fun i σ H' => ∃ y2 y3, σ = [some (.ref b), some (.ref d), y2, y3] ∧ Same HL H') ⟨_, _, rfl, Same.refl _⟩ (fun i σ H' _ hP => ?_) (fun i x σ H1' H1 hi hP hY => ?_) (fun σ H' hP => ?_)
    · obtain ⟨_, _, _, s1⟩ := hP
      exact s1 _ _ hdL
    · obtain ⟨Tt, x1, x2, rfl, nT, rfl, e1, e2⟩ := hY
      obtain ⟨y2, y3, rfl, s1⟩ := hP
      have hi' : i < ps.length := by
        unfold moreK at hi
        rw [List.length_map] at hi
        exact hi
      have ek : (moreK ps)[i]? = some (Sum.inr ps[i].1, V.int ps[i].2) := by
        unfold moreK
        rw [List.getElem?_map, List.getElem?_eq_getElem hi']
        rfl
      have e1' : (moreK ps)[i]?.map (fun kv => kV kv.1) = some x1 := e1
      have e2' : (moreK ps)[i]?.map Prod.snd = some x2 := e2
      rw [ek] at e1' e2'
      have ex1 : x1 = .str ps[i].1 := (Option.some.inj e1').symm
      have ex2 : x2 = .int ps[i].2 := (Option.some.inj e2').symm
      subst ex1 ex2
      obtain ⟨j, l, fl, ej, el, ef, m0, mw⟩ := fo.kd _ (List.getElem_mem hi')
      generalize ps[i] = pm at ej m0 mw nT s1
      obtain ⟨z, m⟩ := pm
      have s2 := s1.trans (same_upd (o := .tup [V.str z, V.int m]) nT)
      have hT : upd H1' Tt (.tup [V.str z, V.int m]) Tt = some (.tup [V.str z, V.int m]) := upd_same
      generalize upd H1' Tt (.tup [V.str z, V.int m]) = H2 at s2 hT
      refine ⟨Tt, [.str z, .int m], rfl, .inl (.inl hT), rfl, _, _, rfl, _, _, rfl, rfl, ?_⟩
      have hm : z ∈ M.names := List.mem_of_getElem? ej
      have lz := (nameT_len (ok.nm z hm)).2
      refine ⟨.ref b, rfl, b, dx, _, rfl, s2 _ _ e, bf_no (NoF.mk' (by decide +kernel)), .str z, rfl, b, M, .str z, .str z, rfl, book_same hbL s2, ok.names, .str z, (fun y ey => by cases ey; omega), fun H3 s3 => ⟨_, rfl, ?_⟩⟩
      have eh : hasD M (.str z) = true := decide_eq_true hm
      rw [eh]
      refine iteF ⟨.int m, rfl, .int m, .int m, rfl, .int m, (fun y ey => by cases ey), fun H4 s4 => ⟨_, rfl, iteF ⟨.int m, rfl, _, _, rfl, rfl, _, rfl, ?_⟩⟩⟩
      rw [show decide (m < 0) = false from decide_eq_false (by have : (0 : Int) ≤ m := m0; omega)]
      have s24 := s2.trans (s3.trans s4)
      refine iteF ⟨.ref b, rfl, b, dx, _, rfl, s24 _ _ e, bf_no (NoF.mk' (by decide +kernel)), .str z, rfl, b, M, z, j, fl, rfl, book_same hbL s24, ok.names, ej, ef, fun H5 s5 => ⟨.int m, rfl, fl, m, rfl, rfl, ?_⟩⟩
      have s25 := s24.trans s5
      refine ⟨.ref b, rfl, b, dx, _, rfl, s25 _ _ e, bf_no (NoF.mk' (by decide +kernel)), .str z, rfl, b, M, z, j, rfl, book_same hbL s25, ok, ej, fun H6 s6 => ⟨_, _, rfl, rfl, _, rfl, ?_⟩⟩
      show if decide (wholeN (M.stacks.getD j []) < fl + m) = true then _ else _
      rw [getD_of el, show decide (wholeN l < fl + m) = false from decide_eq_false (by have : fl + m ≤ wholeN l := mw; omega)]
      exact iteF ⟨_, _, rfl, s25.trans s6⟩
    · obtain ⟨_, _, rfl, s1⟩ := hP
      exact ⟨s1 _ _ hdL, q _ (un _ s1)⟩
/-! ### let_fall -/
abbrev sLetF : Stmt := inBook 15
abbrev nLetF : List Str := ["self", "more", "who", "drops", "other"]
theorem scLetF : FnScope nLetF ["self", "more"] (defScope sLetF) := ⟨rfl, rfl, rfl, by decide +kernel, rfl, by decide +kernel, by decide +kernel⟩
def spLetF (K : PySem.W.Frag) (C : Addr) : Sp := fun vs H Q _ => ∃ (b d : Addr) (M : Bk) (ps : List (Str × Int)), vs = [.ref b, .ref d] ∧ BookAt K C H b M ∧ M.Ok ∧ H d = some (.dK (moreK ps)) ∧ FallOk M ps ∧
  ∀ b' H', Same H H' → H b' = none → BookAt K C H' b' (fallM M ps) → Q (.ref b') H'
theorem ok_letF {f f1 f2 f3 f4 C : Addr} {fd fd1 fd2 fd3 fd4 : FuncData} (F : Fun K "let_fall" "Book.let_fall" sLetF f fd) (T : ClsF K C) (B3 : Blt3 mg)
    (MF : HasM P w K mg base C 6 "may_fall" ["self", "more"] (spMayF K C) f1 fd1) (FL : HasM P w K mg base C 4 "fallen" ["self", "who"] (spNum K C Bk.drops) f2 fd2)
    (WT : HasM P w K mg base C 5 "with_these" ["self", "gifts", "stacks", "drops"] (spWith K C) f3 fd3) (CS : HasM P w K mg base C 5 "cash" ["self", "who"] (spCalc K C cashM) f4 fd4) :
    FnOk P w K mg base CX0 7 f fd ["self", "more"] (spLetF K C) := by
  refine F.ok scLetF (fun vs H Q E h => ?_) (fun cdv A outer s H vs Q E hr h => ?_)
  · obtain ⟨_, _, _, _, rfl, _⟩ := h
    rfl
  · obtain ⟨b, d, M, ps, rfl, hb, ok, hd, fo, q⟩ := h
    have hu := hu_of hr
    have hr4 := hr.mono (show 4 ≤ 6 by decide)
    have hr5 := hr.mono (show 5 ≤ 6 by decide)
    refine ⟨_, pss_cons (ps_if (pt_not (pt_val (pe_meth (pv 0) T.cl MF.m MF.ok hr MF.b .nil pass0 (pa_cons (pv 1) pa_nil)))) pss_never pss_nil)
      (pss_cons (ps_set (i := 3) scLetF.nd rfl (.inl rfl) (pe_callTy call_tupD (by rfl) B3.tuple (by decide +kernel) (pa_cons
          (pe_lc (own := [("who", 2)]) (g := gName 2) (tt := tYes) rfl scLetF.nd (pi_tup (pe_fld (pv 0) rfl)) (blkOk_by (N := nLetF) (sc := defScope sLetF) (own := [("who", 2)]) (by decide +kernel))
            (fun _ _ _ _ _ => pg_name (i := 2) scLetF.nd rfl (.inl rfl) (hf := .inr rfl)) (fun _ _ _ _ _ => pts_nil)
            (fun _ _ _ _ _ => pe_op op_add (pe_meth (pv 0) T.cl FL.m FL.ok hr4 FL.b .nil pass0 (pa_cons (pv 2) pa_nil)) (pe_dget2 hu (pv 1) (pv 2) pe_int ⟨rfl, rfl, rfl, rfl⟩))) pa_nil)))
      (pss_cons (ps_set (i := 4) scLetF.nd rfl (.inl rfl) (pe_meth (pv 0) T.cl WT.m WT.ok hr5 WT.b .nil pass0 (pa_cons (pe_fld (pv 0) rfl) (pa_cons (pe_fld (pv 0) rfl) (pa_cons (pv 3) pa_nil)))))
      (pss_cons (ps_for PassesOwn.never rfl (pi_tup (pe_fld (pv 0) rfl)) (pg_name (i := 2) scLetF.nd rfl (.inl rfl))
        (pss_one (ps_if (pt_cmpR op_lt (pe_meth (pv 4) T.cl CS.m CS.ok hr5 CS.b .nil pass0 (pa_cons (pv 2) pa_nil)) pe_int (nomark _)) pss_never pss_nil)))
      (pss_one (ps_ret (pv 4)))))), ?_⟩
    obtain ⟨dx, tn, on, wg, ws, wd, e, h1, hn, h2, h3, h4⟩ := hb.ex
    refine ⟨.ref b, rfl, b, dx, _, rfl, e, bf_no (NoF.mk' (by decide +kernel)), .ref d, rfl, b, d, M, ps, rfl, hb, ok, hd, fo, fun H1 s1 => ⟨_, rfl, iteF ?_⟩⟩
    have qn : SqT K H tn (M.names.map V.str) := .inl (.inr ⟨on, h1⟩)
    refine ⟨.ref b, rfl, b, C, dx, _, _, rfl, s1 _ _ e, T.cl, T.n1, bf_names, tn, rfl, ⟨_, same_seqT s1 qn⟩, fun D nD => ?_⟩
    have lnm : (M.names.map V.str).length = M.names.length := List.length_map ..
    have lzp : (M.names.zip M.drops).length = M.names.length := by rw [List.length_zip, ok.ld, Nat.min_self]
    have n12 := ok.n1
    refine lc_it (walk_tup (K := K) (a := tn) (xs := M.names.map V.str)) (fun i H' => Same H1 H' ∧ H' D = some (.lst ((((M.names.zip M.drops).take i).map fun p => p.2 + moreAt ps p.1).map V.int))) ⟨same_upd nD, upd_same⟩ (fun i H' _ hP => same_seqT hP.1 (same_seqT s1 qn))
      (fun i x H2' H2 hi hP hY => ?_) (fun H2 hP => ?_)
    · obtain ⟨rfl, hx⟩ := hY
      rw [lnm] at hi
      have hid : i < M.drops.length := by rw [ok.ld]; exact hi
      have ex : x = .str M.names[i] := by
        rw [List.getElem?_map, List.getElem?_eq_getElem hi] at hx
        exact (Option.some.inj hx).symm
      subst ex
      have s12 := s1.trans hP.1
      refine ⟨rfl, .ref b, rfl, b, dx, _, rfl, s12 _ _ e, bf_no (NoF.mk' (by decide +kernel)), _, rfl, b, M, _, i, _, rfl, book_same hb s12, ok.names, List.getElem?_eq_getElem hi, List.getElem?_eq_getElem hid, fun H3 s3 => ?_⟩
      have s13 := s12.trans s3
      refine ⟨.ref d, rfl, d, rfl, .inl ⟨_, .inl (s13 _ _ hd)⟩, _, rfl, _, DGet.k (k := Sum.inr M.names[i]) (s13 _ _ hd), ?_⟩
      rw [more_val]
      refine ⟨_, _, rfl, rfl, _, s3 _ _ hP.2, ?_, fun c o ec => ?_, ?_⟩
      · rw [List.length_map, List.length_map, List.length_take]
        exact small1000 (by omega)
      · rw [upd_ne (ne_of_none ec nD)]
        exact s3 _ _ (hP.1 c o ec)
      · have tk : (M.names.zip M.drops).take (i + 1) = (M.names.zip M.drops).take i ++ [(M.names[i], M.drops[i])] := by
          rw [List.take_add_one, List.getElem?_zip_eq_some (z := (M.names[i], M.drops[i])) |>.mpr ⟨List.getElem?_eq_getElem hi, List.getElem?_eq_getElem hid⟩]
          rfl
        rw [upd_same, tk, List.map_append, List.map_append]
        rfl
    · obtain ⟨s2, hD⟩ := hP
      rw [lnm, List.take_of_length_le (by rw [lzp]; exact Nat.le_refl _)] at hD
      have ed : ((M.names.zip M.drops).map fun p => p.2 + moreAt ps p.1) = (fallM M ps).drops := rfl
      rw [ed] at hD
      refine ⟨.ref D, ((fallM M ps).drops).map .int, rfl, .lst (.inl (.inl hD)) (DtAll.ints _), fun t H3 s3 dt => ?_⟩
      have s13 := s1.trans (s2.trans s3)
      refine ⟨.ref b, rfl, b, dx, _, rfl, s13 _ _ e, bf_no (NoF.mk' (by decide +kernel)), .ref b, rfl, b, C, dx, _, _, rfl, s13 _ _ e, T.cl, T.n2, bf_gifts, .ref b, rfl, b, C, dx, _, _, rfl, s13 _ _ e, T.cl, T.n3, bf_stacks, t, rfl,
        b, M, _, _, _, M.gifts, M.stacks, (fallM M ps).drops, rfl, book_same hb s13, ok.names, Dt.same s13 _ h2, Dt.same s13 _ h3, dt, fun b' H4 s4 nb hb' => ?_⟩
      have s14 := s13.trans s4
      have hb4 : BookAt K C H4 b' (fallM M ps) := hb'
      refine ⟨.ref b, rfl, b, C, dx, _, _, rfl, s14 _ _ e, T.cl, T.n1, bf_names, tn, rfl, ⟨_, same_seqT s14 qn⟩, ?_⟩
      obtain ⟨dx2, tn2, on2, vg2, vs2, vd2, e2, k1, kn, k2, k3, k4⟩ := hb4.ex
      refine for_it (walk_tup (K := K) (a := tn) (xs := M.names.map V.str)) (fun i σ H' => ∃ y2, σ = [some (.ref b), some (.ref d), y2, some t, some (.ref b')] ∧ Same H4 H') ⟨_, rfl, Same.refl _⟩ (fun i σ H' _ hP => ?_) (fun i x σ H5' H5 hi hP hY => ?_) (fun σ H' hP => ?_)
      · obtain ⟨_, _, s5⟩ := hP
        exact same_seqT s5 (same_seqT s14 qn)
      · obtain ⟨rfl, hx⟩ := hY
        obtain ⟨y2, rfl, s5⟩ := hP
        rw [lnm] at hi
        have ex : x = .str M.names[i] := by
          rw [List.getElem?_map, List.getElem?_eq_getElem hi] at hx
          exact (Option.some.inj hx).symm
        subst ex
        have ei : M.names[i]? = some M.names[i] := List.getElem?_eq_getElem hi
        refine ⟨.ref b', rfl, b', dx2, _, rfl, s5 _ _ e2, bf_no (NoF.mk' (by decide +kernel)), _, rfl, b', fallM M ps, _, i, rfl, book_same hb4 s5, fall_ok ok ps, ei, fun H6 s6 => ⟨_, _, rfl, rfl, _, rfl, ?_⟩⟩
        have c0 := fo.cs i _ ei
        rw [show decide (cashM (fallM M ps) i M.names[i] < 0) = false from decide_eq_false (by omega)]
        exact iteF ⟨_, rfl, s5.trans s6⟩
      · obtain ⟨y2, rfl, s5⟩ := hP
        exact ⟨.ref b', rfl, q b' H' (s14.trans s5) (s13.free nb) (book_same hb4 s5)⟩
end
end Rc

namespace Rc
open PySem PySem.Spec PyProof.Rows L2 RZ
theorem due_inv {K : PySem.W.Frag} {H : Hp} {v : V} {o : Option (Str × Int)} (h : Dt K H v (dueD o)) : (o = none ∧ v = .non) ∨ ∃ n a, o = some n ∧ v = .ref a ∧ SqT K H a [.str n.1, .int n.2] := by
  cases o with
  | none =>
    cases h
    exact .inl ⟨rfl, rfl⟩
  | some n =>
    obtain ⟨a, e, q⟩ := note_inv h
    exact .inr ⟨n, a, rfl, e, q⟩
theorem dues_len {M : Bk} (ok : M.Ok) : (duesM M).length = M.names.length := by
  unfold duesM
  rw [List.length_map, List.length_zip, ok.ls, ok.ld, Nat.min_self]
/-- a dict of due notes -/
structure DuesAt (K : PySem.W.Frag) (H : Hp) (d : Addr) (zs : List Str) (os : List (Option (Str × Int))) : Prop where
  ex : ∃ vs, Rd H d (.dK (dct zs vs)) ∧ DtAll K H vs (os.map dueD)
theorem DuesAt.same {K : PySem.W.Frag} {H H' : Hp} {d : Addr} {zs : List Str} {os : List (Option (Str × Int))} (h : DuesAt K H d zs os) (s : Same H H') : DuesAt K H' d zs os := by
  obtain ⟨vs, h1, h2⟩ := h.ex
  refine ⟨vs, ?_, DtAll.same s _ h2⟩
  rcases h1 with h1 | ⟨o, h1⟩
  · exact .inl (s _ _ h1)
  · exact .inr ⟨o, s _ _ h1⟩
/-- and it is not locked -/
structure DuesU (K : PySem.W.Frag) (H : Hp) (d : Addr) (zs : List Str) (os : List (Option (Str × Int))) : Prop where
  ex : ∃ vs, H d = some (.dK (dct zs vs)) ∧ DtAll K H vs (os.map dueD)
theorem DuesU.at {K : PySem.W.Frag} {H : Hp} {d : Addr} {zs : List Str} {os : List (Option (Str × Int))} (h : DuesU K H d zs os) : DuesAt K H d zs os := by
  obtain ⟨vs, h1, h2⟩ := h.ex
  exact ⟨vs, .inl h1, h2⟩
theorem DuesU.same {K : PySem.W.Frag} {H H' : Hp} {d : Addr} {zs : List Str} {os : List (Option (Str × Int))} (h : DuesU K H d zs os) (s : Same H H') : DuesU K H' d zs os := by
  obtain ⟨vs, h1, h2⟩ := h.ex
  exact ⟨vs, s _ _ h1, DtAll.same s _ h2⟩
theorem dget_rd {H : Hp} {a : Addr} {zs : List Str} {vs : List V} {j : Nat} {z : Str} {v : V} (h : Rd H a (.dK (dct zs vs))) (nd : zs.Nodup) (e1 : zs[j]? = some z) (e2 : vs[j]? = some v) : DGet H a (.str z) (some v) :=
  .inl ⟨_, Sum.inr z, h, rfl, (dct_val nd e1 e2).symm⟩
theorem DuesAt.get {K : PySem.W.Frag} {H : Hp} {d : Addr} {zs : List Str} {os : List (Option (Str × Int))} (h : DuesAt K H d zs os) (nd : zs.Nodup) (lo : os.length = zs.length) {z : Str} (hz : z ∈ zs) :
    ∃ v o, DGet H d (.str z) (some v) ∧ Dt K H v (dueD o) ∧ nxOf zs os z = o.map (·.1) := by
  obtain ⟨vs, h1, h2⟩ := h.ex
  have hi : zs.idxOf z < os.length := by
    rw [lo]
    exact List.idxOf_lt_length_of_mem hz
  obtain ⟨v, e1, e2⟩ := h2.get (n := zs.idxOf z) (d := dueD os[zs.idxOf z]) (map_get (List.getElem?_eq_getElem hi))
  refine ⟨v, os[zs.idxOf z], dget_rd h1 nd (idx_get hz) e1, e2, ?_⟩
  unfold nxOf
  rw [getD_of (List.getElem?_eq_getElem hi)]
/-- what the walks ask of due notes -/
structure Walks (zs : List Str) (os : List (Option (Str × Int))) : Prop where
  nd : zs.Nodup
  lo : os.length = zs.length
  lz : zs.length ≤ 12
  ld : Leads zs (nxOf zs os)
theorem walks_of {M : Bk} (ok : M.Ok) (c : Closed M) : Walks M.names (duesM M) := ⟨ok.nd, dues_len ok, ok.n1, c.leads⟩
abbrev nxM (M : Bk) : Str → Option Str := nxOf M.names (duesM M)
end Rc

namespace Rc
open PySem PySem.Spec PyProof.Rows L2 RZ
section
variable {P : Program} {w : World} {K : PySem.W.Frag} {mg : Str → Option Value} {base : Heap}
/-! ### trail_by -/
abbrev sTrB : Stmt := topS 30
theorem scTrB : FnScope ["dues", "who", "trail", "due"] ["dues", "who"] (defScope sTrB) := ⟨rfl, rfl, rfl, by decide +kernel, rfl, by decide +kernel, by decide +kernel⟩
def spTrB (K : PySem.W.Frag) : Sp := fun vs H Q _ => ∃ (d : Addr) (z : Str) (zs : List Str) (os : List (Option (Str × Int))), vs = [.ref d, .str z] ∧ DuesAt K H d zs os ∧ Walks zs os ∧ z ∈ zs ∧
  ∀ t H', Same H H' → H t = none → H' t = some (.lst ((trailM zs (nxOf zs os) z).map V.str)) → Q (.ref t) H'
theorem ok_trB {f : Addr} {fd : FuncData} (F : Fun K "trail_by" "trail_by" sTrB f fd) : FnOk P w K mg base CX0 1 f fd ["dues", "who"] (spTrB K) := by
  refine F.ok scTrB (fun vs H Q E h => ?_) (fun cdv A outer s H vs Q E hr h => ?_)
  · obtain ⟨_, _, _, _, rfl, _⟩ := h
    rfl
  · obtain ⟨d, z, zs, os, rfl, hd, wk, hz, q⟩ := h
    have hu := hu_of hr
    refine ⟨_, pss_cons (ps_set (i := 2) scTrB.nd rfl (.inl rfl) (pe_lst (pa_cons (pv 1) pa_nil)))
      (pss_cons (ps_set (i := 3) scTrB.nd rfl (.inl rfl) (pe_dget hu (pv 0) (pv 1) (fun _ _ => rfl)))
      (pss_cons (ps_while PassesOwn.never (PW.pt (pw_and (pt_cmpR op_notN (pv 3) pe_non (nomark _)) (pw_and1 (pt_cmpR op_notIn_seq (pe_ix ix_tup (pv 3) pe_int (fun _ _ => rfl)) (pv 2) (by rfl)))))
        (pss_cons (ps_expr (pe_bm PySem.F.plainAttrs_list PySem.F.slot_list_append PySem.F.type_list_append mt_append (pv 2) (pa_cons (pe_ix ix_tup (pv 3) pe_int (fun _ _ => rfl)) pa_nil)))
        (pss_one (ps_set (i := 3) scTrB.nd rfl (.inl rfl) (pe_dget hu (pv 0) (pe_ix ix_tup (pv 3) pe_int (fun _ _ => rfl)) (fun _ _ => rfl))))))
      (pss_one (ps_ret (pv 2))))), ?_⟩
    refine ⟨.str z, rfl, by show 1 ≤ sizeLine; decide, fun t nt => ?_⟩
    have s1 := same_upd (o := .lst [V.str z]) nt
    have ht1 : upd H t (.lst [V.str z]) t = some (.lst [V.str z]) := upd_same
    generalize upd H t (.lst [V.str z]) = H1 at s1 ht1
    obtain ⟨v0, o0, g0, d0, e0⟩ := (hd.same s1).get wk.nd wk.lo hz
    refine ⟨.ref d, rfl, .str z, rfl, d, v0, rfl, g0, ?_⟩
    refine ⟨fun k σ H' => ∃ acc o v, σ = [some (.ref d), some (.str z), some (.ref t), some v] ∧ Same H H' ∧ H' t = some (.lst (List.map V.str acc)) ∧ Dt K H' v (dueD o) ∧ TrailAt zs (nxOf zs os) z k acc (o.map (·.1)),
      ⟨zs.length, [z], o0, v0, rfl, s1, ht1, d0, by rw [← e0]; exact TrailAt.start hz⟩, ?_⟩
    rintro k σ H' ⟨acc, o, v, rfl, s2, ht, dv, ta⟩
    have fin : acc = trailM zs (nxOf zs os) z → ∃ x : V, some (some (.ref t)) = some (some x) ∧ Q x H' := fun ea => ⟨.ref t, rfl, q t H' s2 nt (by rw [← ea]; exact ht)⟩
    have lacc : acc.length ≤ 12 := Nat.le_trans (nodup_le _ _ ta.nd ta.sub) wk.lz
    rcases due_inv dv with ⟨rfl, rfl⟩ | ⟨n, a, rfl, rfl, qa⟩
    · refine ⟨.non, rfl, rfl, _, rfl, ?_⟩
      rw [decide_eq_true rfl]
      refine iteF (iteF ?_)
      exact fin ta.stopN
    · refine ⟨.ref a, rfl, rfl, _, rfl, ?_⟩
      rw [decide_eq_false (fun c => by cases c)]
      refine iteT ⟨.ref a, rfl, a, _, 0, .str n.1, rfl, rfl, qa, rfl, .ref t, rfl, t, _, rfl, .inl (.inl (.inl ht)), rfl, flat_strs _, _, rfl, ?_⟩
      show if (!inV (.str n.1) (acc.map V.str)) = true then _ else _
      rw [inV_strs]
      by_cases hin : n.1 ∈ acc
      · rw [decide_eq_true hin]
        refine iteF ?_
        exact fin (ta.stopI hin)
      · rw [decide_eq_false hin]
        obtain ⟨k', rfl, ta'⟩ := ta.step wk.ld hin
        refine iteT ⟨fun σ2 H2 => ∃ acc o v, σ2 = [some (.ref d), some (.str z), some (.ref t), some v] ∧ Same H H2 ∧ H2 t = some (.lst (List.map V.str acc)) ∧ Dt K H2 v (dueD o) ∧ TrailAt zs (nxOf zs os) z k' acc (o.map (·.1)), fun σ2 H2 h2 => ⟨k', by omega, h2⟩, ?_⟩
        refine ⟨.ref t, rfl, .inl ⟨rfl, _, .inl (.inl ht)⟩, .ref a, rfl, a, _, 0, .str n.1, rfl, rfl, qa, rfl, t, _, _, rfl, rfl, ht, by rw [List.length_map]; exact small1000 (by omega), ?_⟩
        have kt : KT H' (upd H' t (.lst (acc.map V.str ++ [.str n.1]))) := kt_upd ht fun z => z
        have s3 : Same H (upd H' t (.lst (acc.map V.str ++ [.str n.1]))) := fun c u ec => by
          rw [upd_ne (ne_of_none ec nt)]
          exact s2 c u ec
        have qa3 : SqT K (upd H' t (.lst (acc.map V.str ++ [.str n.1]))) a [.str n.1, .int n.2] := by
          rcases qa with (qa | ⟨ob, qa⟩) | qa
          · exact .inl (.inl (kt _ _ qa trivial))
          · exact .inl (.inr ⟨ob, kt _ _ qa trivial⟩)
          · exact .inr qa
        have hn : n.1 ∈ zs := by
          obtain ⟨_, x, _, ex⟩ := ta.last
          exact wk.ld x n.1 ex.symm
        obtain ⟨v2, o2, g2, d2, e2⟩ := (hd.same s3).get wk.nd wk.lo hn
        refine ⟨.ref d, rfl, .ref a, rfl, a, _, 0, .str n.1, rfl, rfl, qa3, rfl, d, v2, rfl, g2, ?_⟩
        refine ⟨acc ++ [n.1], o2, v2, rfl, s3, ?_, d2, ?_⟩
        · rw [upd_same, List.map_append]
          rfl
        · rw [← e2]
          exact ta'
end
end Rc

namespace Rc
open PySem PySem.Spec PyProof.Rows L2 RZ
/-- a ring that is told, or none -/
def RingV (H H' : Hp) (v : V) : Option (List Str) → Prop
  | none => v = .non
  | some r => ∃ a, v = .ref a ∧ H a = none ∧ H' a = some (.lst (r.map V.str))
theorem RingV.same {H H0 H' H2 : Hp} {v : V} {o : Option (List Str)} (h : RingV H H' v o) (s : Same H' H2) (s0 : Same H0 H) : RingV H0 H2 v o := by
  cases o with
  | none => exact h
  | some r =>
    obtain ⟨a, e, n, x⟩ := h
    exact ⟨a, e, s0.free n, s _ _ x⟩
theorem idx_first {T : List Str} {f : Str} {m : Nat} {x : Str} (hm : m < T.idxOf f) (e : T[m]? = some x) : x ≠ f := fun c => by
  obtain ⟨hl, e'⟩ := List.getElem?_eq_some_iff.mp e
  have := List.not_of_lt_findIdx (p := (· == f)) (xs := T) (i := m) hm
  rw [e', c] at this
  simp at this
theorem str_eqV (x y : Str) : eqV (.str x) (.str y) = (x == y) := rfl
end Rc

namespace Rc
open PySem PySem.Spec PyProof.Rows L2 RZ
section
variable {P : Program} {w : World} {K : PySem.W.Frag} {mg : Str → Option Value} {base : Heap}
/-! ### ring_by -/
abbrev sRgB : Stmt := topS 31
abbrev nRgB : List Str := ["dues", "who", "trail", "last", "first", "place", "name"]
theorem scRgB : FnScope nRgB ["dues", "who"] (defScope sRgB) := ⟨rfl, rfl, rfl, by decide +kernel, rfl, by decide +kernel, by decide +kernel⟩
def spRgB (K : PySem.W.Frag) : Sp := fun vs H Q _ => ∃ (d : Addr) (z : Str) (zs : List Str) (os : List (Option (Str × Int))), vs = [.ref d, .str z] ∧ DuesAt K H d zs os ∧ Walks zs os ∧ z ∈ zs ∧
  ∀ v H', Same H H' → RingV H H' v (ringM zs (nxOf zs os) z) → Q v H'
theorem ok_rgB {f f1 : Addr} {fd fd1 : FuncData} (F : Fun K "ring_by" "ring_by" sRgB f fd) (TB : Has P w K mg base 1 "trail_by" ["dues", "who"] (spTrB K) f1 fd1) : FnOk P w K mg base CX0 2 f fd ["dues", "who"] (spRgB K) := by
  refine F.ok scRgB (fun vs H Q E h => ?_) (fun cdv A outer s H vs Q E hr h => ?_)
  · obtain ⟨_, _, _, _, rfl, _⟩ := h
    rfl
  · obtain ⟨d, z, zs, os, rfl, hd, wk, hz, q⟩ := h
    have hu := hu_of hr
    obtain ⟨vs, hR, hV⟩ := hd.ex
    rcases hR with hU | ⟨od, hF⟩
    · refine ⟨_, pss_cons (ps_set (i := 2) scRgB.nd rfl (.inr rfl) (pe_call TB.ok hr (by rfl) TB.g TB.kp TB.b .nil pass0 (pa_cons (pv 0) (pa_cons (pv 1) pa_nil))))
        (pss_cons (ps_set (i := 3) scRgB.nd rfl (.inl rfl) (pe_dget hu (pv 0) (pe_ix ix_list (pv 2) (pe_un un_neg pe_int) (fun _ _ => rfl)) (fun _ _ => rfl)))
        (pss_cons (ps_if (PW.pt (pw_or (pt_cmpR op_isN (pv 3) pe_non (nomark _)) (pw_or1 (pt_cmpR op_ne (pe_ix ix_tup (pv 3) pe_int (fun _ _ => rfl)) (pv 1) (nomark _))))) (pss_one (ps_ret pe_non)) pss_nil)
        (pss_cons (ps_set (i := 4) scRgB.nd rfl (.inl rfl) (pe_ix ix_list (pe_lock (pe_lc (own := [("name", 6)]) (g := gName 6) (tt := tTest (tOp (rIn K false) (tVar 6) (tVar 2))) (te := tVar 6) rfl scRgB.nd (pi_keys (pv 0)) (blkOk_by (N := nRgB) (sc := defScope sRgB) (own := [("name", 6)]) (by decide +kernel))
            (fun _ _ _ _ _ => pg_name (i := 6) scRgB.nd rfl (.inl rfl) (hf := .inr rfl)) (fun _ _ _ _ _ => pts_one (pt_cmpR op_in_seq (pv 6) (pv 2) (by rfl))) (fun _ _ _ _ _ => pv 6))) pe_int (fun _ _ => rfl)))
        (pss_cons (ps_set (i := 5) scRgB.nd rfl (.inl rfl) (pe_bm PySem.F.plainAttrs_list PySem.F.slot_list_index PySem.F.type_list_index mt_index (pv 2) (pa_cons (pv 4) pa_nil)))
        (pss_one (ps_ret (pe_op op_cat (pe_slice sl_list (pv 2) (po_some (pv 5)) po_none) (pe_slice sl_list (pv 2) po_none (po_some (pv 5)))))))))), ?_⟩
      have en := trail_ended wk.ld hz
      obtain ⟨ini, y, eT, eL⟩ := en.last
      have hyT : y ∈ trailM zs (nxOf zs os) z := by
        rw [eT]
        exact List.mem_append.mpr (.inr List.mem_cons_self)
      have hy : y ∈ zs := en.sub y hyT
      have eL2 := lastM_eq eT
      have hzT : z ∈ trailM zs (nxOf zs os) z := by
        obtain ⟨r, er⟩ := en.first
        rw [er]
        exact List.mem_cons_self
      have lT : (trailM zs (nxOf zs os) z).length ≤ 12 := Nat.le_trans (nodup_le _ _ en.nd en.sub) wk.lz
      refine ⟨.ref d, rfl, .str z, rfl, d, z, zs, os, rfl, hd, wk, hz, fun t H1 s1 nt ht => ?_⟩
      obtain ⟨v2, o2, g2, d2, e2⟩ := (hd.same s1).get wk.nd wk.lo hy
      refine ⟨.ref d, rfl, .ref t, rfl, _, rfl, t, _, -1, .str y, rfl, rfl, .inl (.inl ht), ?_, d, v2, rfl, g2, ?_⟩
      · rw [eT, List.map_append]
        exact atI_last _ _
      have er : ringM zs (nxOf zs os) z = if o2.map (·.1) = some z then some ((trailM zs (nxOf zs os) z).drop ((trailM zs (nxOf zs os) z).idxOf (firstM zs (trailM zs (nxOf zs os) z))) ++ (trailM zs (nxOf zs os) z).take ((trailM zs (nxOf zs os) z).idxOf (firstM zs (trailM zs (nxOf zs os) z)))) else none := by
        unfold ringM
        rw [eL2, e2]
      rw [er] at q
      generalize trailM zs (nxOf zs os) z = TT at hzT lT ht eT hyT q
      rcases due_inv d2 with ⟨rfl, rfl⟩ | ⟨n, a, rfl, rfl, qa⟩
      · refine ⟨.non, rfl, rfl, _, rfl, ?_⟩
        rw [decide_eq_true rfl]
        refine iteT (iteT ?_)
        exact q .non H1 s1 rfl
      · refine ⟨.ref a, rfl, rfl, _, rfl, ?_⟩
        rw [decide_eq_false (fun c => by cases c)]
        refine iteF ⟨.ref a, rfl, a, _, 0, .str n.1, rfl, rfl, qa, rfl, .str z, rfl, rfl, _, rfl, ?_⟩
        by_cases hn : n.1 = z
        · rw [show decide (V.str n.1 = V.str z) = true from decide_eq_true (by rw [hn])]
          rw [if_pos (show (some n).map (·.1) = some z from congrArg some hn)] at q
          refine iteF ?_
          obtain ⟨vs, hdv, dvs⟩ := (DuesU.same ⟨_, hU, hV⟩ s1).ex
          obtain ⟨fs, rs, ef, e1, fT, fz⟩ := find_some hz hzT
          rw [e1] at q
          refine ⟨d, _, hdv, trivial, fun od => ?_⟩
          have hdL : upd H1 d (.frz od (.dK (dct zs vs))) d = some (.frz od (.dK (dct zs vs))) := upd_same
          have tdn : t ≠ d := fun c => by
            rw [c, hdv] at ht
            cases ht
          have htL : upd H1 d (.frz od (.dK (dct zs vs))) t = some (.lst (TT.map V.str)) := by
            rw [upd_ne tdn]
            exact ht
          have un : ∀ H', Same (upd H1 d (.frz od (.dK (dct zs vs)))) H' → Same H1 (upd H' d (.dK (dct zs vs))) := fun H' s' => same_unlock hdv s'
          generalize upd H1 d (.frz od (.dK (dct zs vs))) = HL at hdL htL un
          have lv : vs.length = zs.length := by
            rw [dvs.len, List.length_map, wk.lo]
          have lk : (dct zs vs).length = zs.length := dct_len lv
          refine ⟨.ref d, rfl, d, od, rfl, .inl ⟨_, hdL, fun D nD => ?_⟩⟩
          refine lc_it (walk_keys (kvs := dct zs vs)) (fun i H' => Same HL H' ∧ H' D = some (.lst (((zs.take i).filter fun x => decide (x ∈ TT)).map V.str))) ⟨same_upd nD, upd_same⟩ (fun i H' _ hP => hP.1 _ _ hdL)
            (fun i x H2' H2 hi hP hY => ?_) (fun H2 hP => ?_)
          · obtain ⟨rfl, k, v, ek, rfl⟩ := hY
            rw [lk] at hi
            have hiv : i < vs.length := by omega
            have ek2 : (dct zs vs)[i]? = some (Sum.inr zs[i], vs[i]) := by
              unfold dct
              rw [List.getElem?_map, List.getElem?_zip_eq_some (z := (zs[i], vs[i])) |>.mpr ⟨List.getElem?_eq_getElem hi, List.getElem?_eq_getElem hiv⟩]
              rfl
            rw [ek2] at ek
            cases ek
            refine ⟨rfl, .str zs[i], rfl, .ref t, rfl, t, _, rfl, .inl (.inl (.inl (hP.1 _ _ htL))), rfl, flat_strs _, _, rfl, ?_⟩
            show if inV (.str zs[i]) (TT.map V.str) = true then _ else _
            rw [inV_strs]
            have tk := take_succ hi
            by_cases hin : zs[i] ∈ TT
            · rw [decide_eq_true hin]
              refine iteT ⟨_, rfl, _, hP.2, ?_, fun c o ec => ?_, ?_⟩
              · rw [List.length_map]
                have h1 := List.length_filter_le (fun x => decide (x ∈ TT)) (zs.take i)
                have h2 : (zs.take i).length ≤ zs.length := by
                  rw [List.length_take]
                  omega
                have := wk.lz
                exact small1000 (by omega)
              · rw [upd_ne (ne_of_none ec nD)]
                exact hP.1 c o ec
              · rw [upd_same, tk, List.filter_append, List.map_append]
                simp [hin]
                rfl
            · rw [decide_eq_false hin]
              refine iteF ⟨hP.1, ?_⟩
              rw [hP.2, tk, List.filter_append]
              simp [hin]
          · obtain ⟨s2, hD⟩ := hP
            rw [lk, List.take_length, ef] at hD
            have s3 := un _ s2
            have tD : t ≠ D := ne_of_none htL nD
            have dD : D ≠ d := (ne_of_none hdL nD).symm
            have hD3 : upd H2 d (.dK (dct zs vs)) D = some (.lst ((fs :: rs).map V.str)) := by
              rw [upd_ne dD]
              exact hD
            have ht3 := s3 _ _ ht
            refine ⟨s2 _ _ hdL, ?_⟩
            generalize upd H2 d (.dK (dct zs vs)) = H3 at s3 hD3 ht3
            refine ⟨D, _, 0, .str fs, rfl, rfl, .inl (.inl hD3), atI_nat (j := 0) rfl, ?_⟩
            refine ⟨.ref t, rfl, .inl ⟨rfl, _, .inl (.inl ht3)⟩, .str fs, rfl, t, _, .str fs, TT.idxOf fs, .str fs, rfl, rfl, .inl (.inl ht3), rfl, flat_strs _, map_get (idx_get fT), by rw [str_eqV]; simp, fun m z' hm e' => ?_, ?_⟩
            · rw [List.getElem?_map] at e'
              obtain ⟨x', ex, rfl⟩ := Option.map_eq_some_iff.mp e'
              rw [str_eqV]
              exact beq_eq_false_iff_ne.mpr (idx_first hm ex)
            · refine ⟨.ref t, rfl, .int (TT.idxOf fs : Nat), rfl, _, rfl, t, _, rfl, .inl (.inl ht3), fun p1 n1 => ?_⟩
              rw [cut_drop, ← List.map_drop]
              have s4 := same_upd (o := .lst ((TT.drop (TT.idxOf fs)).map V.str)) n1
              refine ⟨.ref t, rfl, .int (TT.idxOf fs : Nat), rfl, _, rfl, t, _, rfl, .inl (.inl (s4 _ _ ht3)), fun p2 n2 => ?_⟩
              rw [cut_take, ← List.map_take]
              have s5 := same_upd (o := .lst ((TT.take (TT.idxOf fs)).map V.str)) n2
              refine ⟨p1, p2, _, _, rfl, rfl, s5 _ _ upd_same, upd_same, ?_, fun p np => ?_⟩
              · rw [List.length_map, List.length_map, List.length_drop, List.length_take]
                exact small_line (by omega)
              · have s6 := same_upd (o := .lst ((TT.drop (TT.idxOf fs)).map V.str ++ (TT.take (TT.idxOf fs)).map V.str)) np
                refine q (.ref p) _ (s1.trans (s3.trans (s4.trans (s5.trans s6)))) ⟨p, rfl, (s1.trans (s3.trans (s4.trans s5))).free np, ?_⟩
                rw [upd_same, List.map_append]
        · rw [show decide (V.str n.1 = V.str z) = false from decide_eq_false (fun c => hn (V.str.inj c))]
          rw [if_neg (show ¬ (some n).map (·.1) = some z from fun c => hn (Option.some.inj c))] at q
          exact iteT (q .non H1 s1 rfl)
    · refine ⟨_, pss_cons (ps_set (i := 2) scRgB.nd rfl (.inr rfl) (pe_call TB.ok hr (by rfl) TB.g TB.kp TB.b .nil pass0 (pa_cons (pv 0) (pa_cons (pv 1) pa_nil))))
        (pss_cons (ps_set (i := 3) scRgB.nd rfl (.inl rfl) (pe_dget hu (pv 0) (pe_ix ix_list (pv 2) (pe_un un_neg pe_int) (fun _ _ => rfl)) (fun _ _ => rfl)))
        (pss_cons (ps_if (PW.pt (pw_or (pt_cmpR op_isN (pv 3) pe_non (nomark _)) (pw_or1 (pt_cmpR op_ne (pe_ix ix_tup (pv 3) pe_int (fun _ _ => rfl)) (pv 1) (nomark _))))) (pss_one (ps_ret pe_non)) pss_nil)
        (pss_cons (ps_set (i := 4) scRgB.nd rfl (.inl rfl) (pe_ix ix_list (pe_lc (own := [("name", 6)]) (g := gName 6) (tt := tTest (tOp (rIn K false) (tVar 6) (tVar 2))) (te := tVar 6) rfl scRgB.nd (pi_keys (pv 0)) (blkOk_by (N := nRgB) (sc := defScope sRgB) (own := [("name", 6)]) (by decide +kernel))
            (fun _ _ _ _ _ => pg_name (i := 6) scRgB.nd rfl (.inl rfl) (hf := .inr rfl)) (fun _ _ _ _ _ => pts_one (pt_cmpR op_in_seq (pv 6) (pv 2) (by rfl))) (fun _ _ _ _ _ => pv 6)) pe_int (fun _ _ => rfl)))
        (pss_cons (ps_set (i := 5) scRgB.nd rfl (.inl rfl) (pe_bm PySem.F.plainAttrs_list PySem.F.slot_list_index PySem.F.type_list_index mt_index (pv 2) (pa_cons (pv 4) pa_nil)))
        (pss_one (ps_ret (pe_op op_cat (pe_slice sl_list (pv 2) (po_some (pv 5)) po_none) (pe_slice sl_list (pv 2) po_none (po_some (pv 5)))))))))), ?_⟩
      have en := trail_ended wk.ld hz
      obtain ⟨ini, y, eT, eL⟩ := en.last
      have hyT : y ∈ trailM zs (nxOf zs os) z := by
        rw [eT]
        exact List.mem_append.mpr (.inr List.mem_cons_self)
      have hy : y ∈ zs := en.sub y hyT
      have eL2 := lastM_eq eT
      have hzT : z ∈ trailM zs (nxOf zs os) z := by
        obtain ⟨r, er⟩ := en.first
        rw [er]
        exact List.mem_cons_self
      have lT : (trailM zs (nxOf zs os) z).length ≤ 12 := Nat.le_trans (nodup_le _ _ en.nd en.sub) wk.lz
      refine ⟨.ref d, rfl, .str z, rfl, d, z, zs, os, rfl, hd, wk, hz, fun t H1 s1 nt ht => ?_⟩
      obtain ⟨v2, o2, g2, d2, e2⟩ := (hd.same s1).get wk.nd wk.lo hy
      refine ⟨.ref d, rfl, .ref t, rfl, _, rfl, t, _, -1, .str y, rfl, rfl, .inl (.inl ht), ?_, d, v2, rfl, g2, ?_⟩
      · rw [eT, List.map_append]
        exact atI_last _ _
      have er : ringM zs (nxOf zs os) z = if o2.map (·.1) = some z then some ((trailM zs (nxOf zs os) z).drop ((trailM zs (nxOf zs os) z).idxOf (firstM zs (trailM zs (nxOf zs os) z))) ++ (trailM zs (nxOf zs os) z).take ((trailM zs (nxOf zs os) z).idxOf (firstM zs (trailM zs (nxOf zs os) z)))) else none := by
        unfold ringM
        rw [eL2, e2]
      rw [er] at q
      generalize trailM zs (nxOf zs os) z = TT at hzT lT ht eT hyT q
      rcases due_inv d2 with ⟨rfl, rfl⟩ | ⟨n, a, rfl, rfl, qa⟩
      · refine ⟨.non, rfl, rfl, _, rfl, ?_⟩
        rw [decide_eq_true rfl]
        refine iteT (iteT ?_)
        exact q .non H1 s1 rfl
      · refine ⟨.ref a, rfl, rfl, _, rfl, ?_⟩
        rw [decide_eq_false (fun c => by cases c)]
        refine iteF ⟨.ref a, rfl, a, _, 0, .str n.1, rfl, rfl, qa, rfl, .str z, rfl, rfl, _, rfl, ?_⟩
        by_cases hn : n.1 = z
        · rw [show decide (V.str n.1 = V.str z) = true from decide_eq_true (by rw [hn])]
          rw [if_pos (show (some n).map (·.1) = some z from congrArg some hn)] at q
          refine iteF ?_
          have dvs := DtAll.same s1 _ hV
          have hdL := s1 _ _ hF
          obtain ⟨fs, rs, ef, e1, fT, fz⟩ := find_some hz hzT
          rw [e1] at q
          have htL := ht
          have lv : vs.length = zs.length := by
            rw [dvs.len, List.length_map, wk.lo]
          have lk : (dct zs vs).length = zs.length := dct_len lv
          refine ⟨.ref d, rfl, d, od, rfl, .inl ⟨_, hdL, fun D nD => ?_⟩⟩
          refine lc_it (walk_keys (kvs := dct zs vs)) (fun i H' => Same H1 H' ∧ H' D = some (.lst (((zs.take i).filter fun x => decide (x ∈ TT)).map V.str))) ⟨same_upd nD, upd_same⟩ (fun i H' _ hP => hP.1 _ _ hdL)
            (fun i x H2' H2 hi hP hY => ?_) (fun H2 hP => ?_)
          · obtain ⟨rfl, k, v, ek, rfl⟩ := hY
            rw [lk] at hi
            have hiv : i < vs.length := by omega
            have ek2 : (dct zs vs)[i]? = some (Sum.inr zs[i], vs[i]) := by
              unfold dct
              rw [List.getElem?_map, List.getElem?_zip_eq_some (z := (zs[i], vs[i])) |>.mpr ⟨List.getElem?_eq_getElem hi, List.getElem?_eq_getElem hiv⟩]
              rfl
            rw [ek2] at ek
            cases ek
            refine ⟨rfl, .str zs[i], rfl, .ref t, rfl, t, _, rfl, .inl (.inl (.inl (hP.1 _ _ htL))), rfl, flat_strs _, _, rfl, ?_⟩
            show if inV (.str zs[i]) (TT.map V.str) = true then _ else _
            rw [inV_strs]
            have tk := take_succ hi
            by_cases hin : zs[i] ∈ TT
            · rw [decide_eq_true hin]
              refine iteT ⟨_, rfl, _, hP.2, ?_, fun c o ec => ?_, ?_⟩
              · rw [List.length_map]
                have h1 := List.length_filter_le (fun x => decide (x ∈ TT)) (zs.take i)
                have h2 : (zs.take i).length ≤ zs.length := by
                  rw [List.length_take]
                  omega
                have := wk.lz
                exact small1000 (by omega)
              · rw [upd_ne (ne_of_none ec nD)]
                exact hP.1 c o ec
              · rw [upd_same, tk, List.filter_append, List.map_append]
                simp [hin]
                rfl
            · rw [decide_eq_false hin]
              refine iteF ⟨hP.1, ?_⟩
              rw [hP.2, tk, List.filter_append]
              simp [hin]
          · obtain ⟨s2, hD⟩ := hP
            rw [lk, List.take_length, ef] at hD
            have s3 := s2
            have tD : t ≠ D := ne_of_none htL nD
            have dD : D ≠ d := (ne_of_none hdL nD).symm
            have hD3 := hD
            have ht3 := s3 _ _ ht
            refine ⟨D, _, 0, .str fs, rfl, rfl, .inl (.inl hD3), atI_nat (j := 0) rfl, ?_⟩
            refine ⟨.ref t, rfl, .inl ⟨rfl, _, .inl (.inl ht3)⟩, .str fs, rfl, t, _, .str fs, TT.idxOf fs, .str fs, rfl, rfl, .inl (.inl ht3), rfl, flat_strs _, map_get (idx_get fT), by rw [str_eqV]; simp, fun m z' hm e' => ?_, ?_⟩
            · rw [List.getElem?_map] at e'
              obtain ⟨x', ex, rfl⟩ := Option.map_eq_some_iff.mp e'
              rw [str_eqV]
              exact beq_eq_false_iff_ne.mpr (idx_first hm ex)
            · refine ⟨.ref t, rfl, .int (TT.idxOf fs : Nat), rfl, _, rfl, t, _, rfl, .inl (.inl ht3), fun p1 n1 => ?_⟩
              rw [cut_drop, ← List.map_drop]
              have s4 := same_upd (o := .lst ((TT.drop (TT.idxOf fs)).map V.str)) n1
              refine ⟨.ref t, rfl, .int (TT.idxOf fs : Nat), rfl, _, rfl, t, _, rfl, .inl (.inl (s4 _ _ ht3)), fun p2 n2 => ?_⟩
              rw [cut_take, ← List.map_take]
              have s5 := same_upd (o := .lst ((TT.take (TT.idxOf fs)).map V.str)) n2
              refine ⟨p1, p2, _, _, rfl, rfl, s5 _ _ upd_same, upd_same, ?_, fun p np => ?_⟩
              · rw [List.length_map, List.length_map, List.length_drop, List.length_take]
                exact small_line (by omega)
              · have s6 := same_upd (o := .lst ((TT.drop (TT.idxOf fs)).map V.str ++ (TT.take (TT.idxOf fs)).map V.str)) np
                refine q (.ref p) _ (s1.trans (s3.trans (s4.trans (s5.trans s6)))) ⟨p, rfl, (s1.trans (s3.trans (s4.trans s5))).free np, ?_⟩
                rw [upd_same, List.map_append]
        · rw [show decide (V.str n.1 = V.str z) = false from decide_eq_false (fun c => hn (V.str.inj c))]
          rw [if_neg (show ¬ (some n).map (·.1) = some z from fun c => hn (Option.some.inj c))] at q
          exact iteT (q .non H1 s1 rfl)
end
end Rc

namespace Rc
open PySem PySem.Spec PyProof.Rows L2 RZ
section
variable {P : Program} {w : World} {K : PySem.W.Frag} {mg : Str → Option Value} {base : Heap}
/-! ### due_of -/
abbrev sDue : Stmt := topS 28
theorem scDue : FnScope ["book", "who", "pile"] ["book", "who"] (defScope sDue) := ⟨rfl, rfl, rfl, by decide +kernel, rfl, by decide +kernel, by decide +kernel⟩
def spDue (K : PySem.W.Frag) (C : Addr) : Sp := fun vs H Q _ => ∃ (b : Addr) (M : Bk) (z : Str) (j : Nat), vs = [.ref b, .str z] ∧ BookAt K C H b M ∧ M.Ok ∧ M.names[j]? = some z ∧ ∀ v H', Same H H' → Dt K H' v (dueD ((duesM M).getD j none)) → Q v H'
theorem ok_due {f fp C : Addr} {fd fdp : FuncData} (F : Fun K "due_of" "due_of" sDue f fd) (T : ClsF K C) (B : Blt mg) (PI' : HasM P w K mg base C 5 "pile" ["self", "who"] (spRow K C leftN) fp fdp) : FnOk P w K mg base CX0 6 f fd ["book", "who"] (spDue K C) := by
  refine F.ok scDue (fun vs H Q E h => ?_) (fun cdv A outer s H vs Q E hr h => ?_)
  · obtain ⟨_, _, _, _, rfl, _⟩ := h
    rfl
  · obtain ⟨b, M, z, j, rfl, hb, ok, ej, q⟩ := h
    refine ⟨_, pss_cons (ps_set (i := 2) scDue.nd rfl (.inl rfl) (pe_meth (pv 0) T.cl PI'.m PI'.ok hr PI'.b .nil pass0 (pa_cons (pv 1) pa_nil)))
      (pss_one (ps_ret (pe_ifExp (pt_cmpR op_gt (pe_callB call_len_seq (by rfl) B.len PySem.boot_len (pa_cons (pv 2) pa_nil)) pe_int (nomark _)) (pe_ix ix_list (pv 2) pe_int (fun _ _ => rfl)) pe_non))), ?_⟩
    obtain ⟨g, l, d, eg, el, ed, ll⟩ := ok.at_ ej
    obtain ⟨dx, tn, on, wg, ws, wd, e, h1, hn, h2, h3, h4⟩ := hb.ex
    refine ⟨.ref b, rfl, b, dx, _, rfl, e, bf_no (NoF.mk' (by decide +kernel)), .str z, rfl, b, M, z, j, l, d, rfl, hb, ok.names, ej, el, ed, by omega, fun r xs H1 s1 nr hr1 dr => ?_⟩
    refine ⟨.ref r, rfl, r, _, rfl, .inl (.inl (.inl hr1)), _, _, rfl, rfl, _, rfl, ?_⟩
    have eo : (duesM M).getD j none = (leftN l d).head? := getD_of (dues_at el ed)
    rw [eo] at q
    cases hl : leftN l d with
    | nil =>
      rw [hl] at dr q
      cases dr
      exact iteF (q .non H1 s1 .non)
    | cons n t =>
      rw [hl] at dr q
      cases dr with
      | cons d1 d2 =>
        rename_i x xr
        rw [show decide ((0 : Int) < ((x :: xr).length : Int)) = true from decide_eq_true (by rw [List.length_cons]; omega)]
        exact iteT ⟨.ref r, rfl, r, _, 0, x, rfl, rfl, .inl (.inl hr1), atI_nat (j := 0) rfl, q x H1 s1 d1⟩
/-! ### all_dues -/
abbrev sDues : Stmt := topS 29
abbrev nDues : List Str := ["book", "who"]
theorem scDues : FnScope nDues ["book"] (defScope sDues) := ⟨rfl, rfl, rfl, by decide +kernel, rfl, by decide +kernel, by decide +kernel⟩
def spDues (K : PySem.W.Frag) (C : Addr) : Sp := fun vs H Q _ => ∃ (b : Addr) (M : Bk), vs = [.ref b] ∧ BookAt K C H b M ∧ M.Ok ∧ ∀ d H', Same H H' → H d = none → DuesU K H' d M.names (duesM M) → Q (.ref d) H'
theorem ok_dues {f f1 f2 C : Addr} {fd fd1 fd2 : FuncData} (F : Fun K "all_dues" "all_dues" sDues f fd) (T : ClsF K C) (PS' : HasM P w K mg base C 1 "persons" ["self"] (spPersons K C) f1 fd1)
    (DU : Has P w K mg base 6 "due_of" ["book", "who"] (spDue K C) f2 fd2) : FnOk P w K mg base CX0 7 f fd ["book"] (spDues K C) := by
  refine F.ok scDues (fun vs H Q E h => ?_) (fun cdv A outer s H vs Q E hr h => ?_)
  · obtain ⟨_, _, rfl, _⟩ := h
    rfl
  · obtain ⟨b, M, rfl, hb, ok, q⟩ := h
    have hr1 := hr.mono (show 1 ≤ 6 by decide)
    refine ⟨_, pss_one (ps_ret (pe_dc (own := [("who", 1)]) (g := gName 1) (tt := tYes) rfl scDues.nd (pi_list (pe_meth0 (pv 0) T.cl PS'.m PS'.ok hr1 PS'.b .nil pass0)) (blkOk_by (N := nDues) (sc := defScope sDues) (own := [("who", 1)]) (by decide +kernel))
      (fun _ _ _ _ _ => pg_name (i := 1) scDues.nd rfl (.inl rfl) (hf := .inr rfl)) (fun _ _ _ _ _ => pts_nil) (fun _ _ _ _ _ => pv 1)
      (fun _ _ _ _ _ => pe_call DU.ok hr (by rfl) DU.g DU.kp DU.b .nil pass0 (pa_cons (pv 0) (pa_cons (pv 1) pa_nil))))), ?_⟩
    obtain ⟨dx, tn, on, wg, ws, wd, e, h1, hn, h2, h3, h4⟩ := hb.ex
    refine ⟨.ref b, rfl, b, dx, _, rfl, e, bf_no (NoF.mk' (by decide +kernel)), b, M, rfl, hb, fun l nl => ⟨l, rfl, ⟨_, .inl (.inl upd_same)⟩, fun D nD => ?_⟩⟩
    have s1 := same_upd (o := .lst (M.names.map V.str)) nl
    have hl1 : upd H l (.lst (M.names.map V.str)) l = some (.lst (M.names.map V.str)) := upd_same
    have nDH : H D = none := s1.free nD
    generalize upd H l (.lst (M.names.map V.str)) = H1 at s1 hl1 nD
    have ld := dues_len ok
    have n12 := ok.n1
    have lnm : (M.names.map V.str).length = M.names.length := List.length_map ..
    refine out_it (walk_list (K := K) (a := l) (xs := M.names.map V.str)) (fun i H' => Same H1 H' ∧ ∃ vs, H' D = some (.dK (dct (M.names.take i) vs)) ∧ vs.length = i ∧ DtAll K H' vs (((duesM M).take i).map dueD)) ⟨same_upd nD, [], upd_same, rfl, .nil⟩ (fun i H' _ hP => .inl (.inl (hP.1 _ _ hl1)))
      (fun i x H2' H2 hi hP hY => ?_) (fun H2 hP => ?_)
    · obtain ⟨rfl, hx⟩ := hY
      obtain ⟨s2, vs, hD, lv, dv⟩ := hP
      rw [lnm] at hi
      have ex : x = .str M.names[i] := by
        rw [List.getElem?_map, List.getElem?_eq_getElem hi] at hx
        exact (Option.some.inj hx).symm
      subst ex
      have s02 := s1.trans s2
      refine ⟨rfl, _, rfl, .ref b, rfl, _, rfl, b, M, _, i, rfl, book_same hb s02, ok, List.getElem?_eq_getElem hi, fun v H3 s3 d3 => ?_⟩
      have hD3 := s3 _ _ hD
      refine ⟨_, Sum.inr M.names[i], rfl, hD3, ?_, fun c o ec => ?_, ?_⟩
      · rw [dct_len (by rw [lv, List.length_take]; omega), List.length_take]
        exact small1000 (by omega)
      · rw [upd_ne (ne_of_none ec nD)]
        exact s3 _ _ (s2 c o ec)
      · have no : ∀ kv ∈ dct (M.names.take i) vs, ¬ kv.1 = (Sum.inr M.names[i] : Key) := dct_nokey fun z => by
          obtain ⟨j, hj, e'⟩ := List.getElem_of_mem z
          rw [List.length_take] at hj
          rw [List.getElem_take] at e'
          have := (List.getElem_inj ok.nd).mp e'
          omega
        have kt : KT H3 (upd H3 D (.dK (putK (dct (M.names.take i) vs) (Sum.inr M.names[i]) v))) := kt_upd hD3 fun z => z
        refine ⟨vs ++ [v], ?_, by rw [List.length_append, lv]; rfl, ?_⟩
        · rw [upd_same, put_new no, ← dct_snoc (by rw [lv, List.length_take]; omega), ← take_succ hi]
        · have hid : i < (duesM M).length := by omega
          rw [take_succ hid, List.map_append]
          refine (DtAll.keepT kt _ (tupDs_map tup_due _) (DtAll.same s3 _ dv)).append (.cons ?_ .nil)
          rw [getD_of (List.getElem?_eq_getElem hid)] at d3
          exact Dt.keepT kt _ (tup_due _) d3
    · obtain ⟨s2, vs, hD, lv, dv⟩ := hP
      rw [lnm, List.take_length] at hD
      rw [lnm, ← ld, List.take_length] at dv
      exact q D H2 (s1.trans s2) nDH ⟨vs, hD, dv⟩
end
end Rc

namespace Rc
open PySem PySem.Spec PyProof.Rows L2 RZ
section
variable {P : Program} {w : World} {K : PySem.W.Frag} {mg : Str → Option Value} {base : Heap}
/-! ### check_person -/
abbrev sCkP : Stmt := topS 33
theorem scCkP : FnScope ["book", "who"] ["book", "who"] (defScope sCkP) := ⟨rfl, rfl, rfl, by decide +kernel, rfl, by decide +kernel, by decide +kernel⟩
def spCkP (K : PySem.W.Frag) (C : Addr) : Sp := fun vs H Q _ => ∃ (b : Addr) (M : Bk) (z : Str), vs = [.ref b, .str z] ∧ BookAt K C H b M ∧ M.Ok ∧ z ∈ M.names ∧ ∀ H', Same H H' → Q .non H'
theorem ok_ckP {f f1 C : Addr} {fd fd1 : FuncData} (F : Fun K "check_person" "check_person" sCkP f fd) (T : ClsF K C) (HS : HasM P w K mg base C 2 "has" ["self", "who"] (spHas K C) f1 fd1) : FnOk P w K mg base CX0 3 f fd ["book", "who"] (spCkP K C) := by
  refine F.ok scCkP (fun vs H Q E h => ?_) (fun cdv A outer s H vs Q E hr h => ?_)
  · obtain ⟨_, _, _, rfl, _⟩ := h
    rfl
  · obtain ⟨b, M, z, rfl, hb, ok, hz, q⟩ := h
    refine ⟨_, pss_one (ps_if (pt_not (pt_val (pe_meth (pv 0) T.cl HS.m HS.ok hr HS.b .nil pass0 (pa_cons (pv 1) pa_nil)))) pss_never pss_nil), ?_⟩
    obtain ⟨dx, tn, on, wg, ws, wd, e, h1, hn, h2, h3, h4⟩ := hb.ex
    have lz := (nameT_len (ok.nm z hz)).2
    refine ⟨.ref b, rfl, b, dx, _, rfl, e, bf_no (NoF.mk' (by decide +kernel)), .str z, rfl, b, M, .str z, .str z, rfl, hb, ok.names, .str z, (fun y ey => by cases ey; omega), fun H1 s1 => ⟨_, rfl, ?_⟩⟩
    have eh : hasD M (.str z) = true := decide_eq_true hz
    rw [eh]
    exact iteF (q H1 s1)
/-! ### ring_of, trail_of, ends_at -/
abbrev sRgO : Stmt := topS 34
theorem scRgO : FnScope ["book", "who"] ["book", "who"] (defScope sRgO) := ⟨rfl, rfl, rfl, by decide +kernel, rfl, by decide +kernel, by decide +kernel⟩
def spRgO (K : PySem.W.Frag) (C : Addr) : Sp := fun vs H Q _ => ∃ (b : Addr) (M : Bk) (z : Str), vs = [.ref b, .str z] ∧ BookAt K C H b M ∧ M.Ok ∧ Closed M ∧ z ∈ M.names ∧ ∀ v H', Same H H' → RingV H H' v (ringM M.names (nxM M) z) → Q v H'
theorem ok_rgO {f f1 f2 f3 C : Addr} {fd fd1 fd2 fd3 : FuncData} (F : Fun K "ring_of" "ring_of" sRgO f fd) (CP : Has P w K mg base 3 "check_person" ["book", "who"] (spCkP K C) f1 fd1)
    (RB : Has P w K mg base 2 "ring_by" ["dues", "who"] (spRgB K) f2 fd2) (AD : Has P w K mg base 7 "all_dues" ["book"] (spDues K C) f3 fd3) : FnOk P w K mg base CX0 8 f fd ["book", "who"] (spRgO K C) := by
  refine F.ok scRgO (fun vs H Q E h => ?_) (fun cdv A outer s H vs Q E hr h => ?_)
  · obtain ⟨_, _, _, rfl, _⟩ := h
    rfl
  · obtain ⟨b, M, z, rfl, hb, ok, cl, hz, q⟩ := h
    refine ⟨_, pss_cons (ps_expr (pe_call CP.ok (hr.mono (by decide)) (by rfl) CP.g CP.kp CP.b .nil pass0 (pa_cons (pv 0) (pa_cons (pv 1) pa_nil))))
      (pss_one (ps_ret (pe_call RB.ok (hr.mono (by decide)) (by rfl) RB.g RB.kp RB.b .nil pass0 (pa_cons (pe_call AD.ok hr (by rfl) AD.g AD.kp AD.b .nil pass0 (pa_cons (pv 0) pa_nil)) (pa_cons (pv 1) pa_nil))))), ?_⟩
    refine ⟨.ref b, rfl, .str z, rfl, b, M, z, rfl, hb, ok, hz, fun H1 s1 => ?_⟩
    refine ⟨.ref b, rfl, b, M, rfl, book_same hb s1, ok, fun d H2 s2 nd hd => ?_⟩
    refine ⟨.str z, rfl, d, z, M.names, duesM M, rfl, hd.at, walks_of ok cl, hz, fun v H3 s3 rv => ?_⟩
    exact q v H3 (s1.trans (s2.trans s3)) (rv.same (Same.refl _) (s1.trans s2))
end
end Rc

namespace Rc
open PySem PySem.Spec PyProof.Rows L2 RZ
section
variable {X : Cx}
theorem ix_listS {K : PySem.W.Frag} (e : X.K = K) : IxR X (rIxL K) := by
  subst e
  exact ix_list
theorem ix_tupS {K : PySem.W.Frag} (e : X.K = K) : IxR X (rIxT K) := by
  subst e
  exact ix_tup
theorem mt_indexS {K : PySem.W.Frag} (e : X.K = K) : MtR X "list.index" (rIndex K) := by
  subst e
  exact mt_index
theorem pe_bmK {K : PySem.W.Frag} (eK : X.K = K) {o e : Expr} {es : List Expr} {to : TE} {t : TA} {name : Str} {apos cpos : Pos} {T id : String} {r : V → List V → Hp → VK → Prop} (pa : PlainAttrs T) (slot : Slot T name id) (hty : typeOf (.builtin id) = pure (.type "method_descriptor")) (hm : MtR X id r) (ho : PE X o to) (ha : PA X (e :: es) t)
    (hbase : attributeBase o name X.env (eval o X.env) = eval o X.env := by rfl)
    (hfew : ((backTo cpos (starEach (e :: es) X.env)).all (fun x => !x.1) && (backToKw cpos (keywordEach [] X.env)).all (fun x => x.1.isSome)
      && decide ((e :: es).length + ([] : List Keyword).length + (if ([] : List Keyword).isEmpty then 0 else 1) < 30)) = true := by rfl)
    (hline : (apos.endLine == cpos.line) = true := by rfl) (hs : starEach (e :: es) X.env = (false, eval e X.env) :: starEach es X.env := by rfl) (hplain : (backTo cpos (starEach es X.env)).any (·.1) = false := by rfl) :
    PE X (.Call (.Attribute o name apos) (e :: es) [] cpos) (tBM K T r to t) := by
  subst eK
  exact pe_bm pa slot hty hm ho ha hbase hfew hline hs hplain
end
/-- a model that may be -/
structure Gs (zs : List Str) (D : Md) : Prop where
  nz : NamesOk zs
  nt : ∀ l ∈ D.notes, ∀ n ∈ l, NoteOk zs n
  fl : ∀ f ∈ D.fallen, 0 ≤ f
  my : (D.notes.map List.length).sum ≤ 60
  lg : D.given.length = zs.length
  lf : D.fallen.length = zs.length
  ln : D.notes.length = zs.length
  cs : ∀ (j : Nat) (z : Str), zs[j]? = some z → 0 ≤ cashM (bkOf zs D) j z
theorem Gs.ok {zs : List Str} {D : Md} (g : Gs zs D) : (bkOf zs D).Ok := ⟨g.nz.n0, g.nz.n1, g.nz.nd, g.nz.nm, g.lg, g.ln, g.lf, g.my⟩
theorem Gs.closed {zs : List Str} {D : Md} (g : Gs zs D) : Closed (bkOf zs D) := fun l hl n hn => (g.nt l hl n hn).1
theorem Gs.rows {zs : List Str} {D : Md} (g : Gs zs D) : RowsOk D := fun l hl => Nat.le_trans (len_le_sum hl) g.my
theorem Gs.walks {zs : List Str} {D : Md} (g : Gs zs D) : Walks zs (duesM (bkOf zs D)) := walks_of g.ok g.closed
theorem Gs.left {zs : List Str} {D : Md} (g : Gs zs D) {j : Nat} {l : List (Str × Int)} {f : Int} (el : D.notes[j]? = some l) (ef : D.fallen[j]? = some f) : ∀ n ∈ leftN l f, NoteOk zs n :=
  leftN_ok (g.nt l (List.mem_of_getElem? el)) (g.fl f (List.mem_of_getElem? ef))
theorem Gs.due {zs : List Str} {D : Md} (g : Gs zs D) {n : Str × Int} (h : some n ∈ duesM (bkOf zs D)) : NoteOk zs n := by
  obtain ⟨l, f, hl, hf, hn⟩ := dues_mem h
  exact leftN_ok (g.nt l hl) (g.fl f hf) n hn
/-- what the law's walk goes by -/
abbrev nxD (zs : List Str) (D : Md) : Str → Option Str := nxOf zs (duesM (bkOf zs D))
theorem nxD_at {zs : List Str} {D : Md} {j : Nat} {z : Str} {l : List (Str × Int)} {f : Int} (nd : zs.Nodup) (ej : zs[j]? = some z) (el : D.notes[j]? = some l) (ef : D.fallen[j]? = some f) : nxD zs D z = (leftN l f).head?.map (·.1) := by
  have hj : j < zs.length := (List.getElem?_eq_some_iff.mp ej).1
  have ez : zs[j] = z := (List.getElem?_eq_some_iff.mp ej).2
  have ei : zs.idxOf z = j := by
    rw [← ez]
    exact nd.idxOf_getElem j hj
  show ((duesM (bkOf zs D)).getD (zs.idxOf z) none).map (·.1) = _
  rw [ei, getD_of (dues_at (M := bkOf zs D) el ef)]
end Rc

namespace Rc
open PySem PySem.Spec PyProof.Rows L2 RZ
theorem notes_dp {K : PySem.W.Frag} {H : Hp} {m : Addr} {mx : List V} {l : List (Str × Int)} (h : H m = some (.lst mx)) (d : DtAll K H mx (notesD l)) : Dp K H (.ref m) (.list (notesD l)) := .lst (.inl (.inl h)) (DtAll.dp _ (tup_notes l) d)
theorem shaped_nil : SeqAt.shaped (.list []) = true := by decide +kernel
section
variable {P : Program} {w : World} {K : PySem.W.Frag} {mg : Str → Option Value} {base : Heap}
/-! ### _law_next -/
abbrev sLNx : Stmt := topS 60
theorem scLNx : FnScope ["_law_model_here", "_law_who", "_law_left_here"] ["_law_model_here", "_law_who"] (defScope sLNx) := ⟨rfl, rfl, rfl, by decide +kernel, rfl, by decide +kernel, by decide +kernel⟩
def spLNx (K : PySem.W.Frag) : Sp := fun vs H Q _ => ∃ (a : MdA) (D : Md) (zs : List Str) (z : Str), vs = [.ref a.m, .str z] ∧ ModelAt K H zs a D ∧ Gs zs D ∧ z ∈ zs ∧ ∀ H', Same H H' → Q (nxV (nxD zs D z)) H'
theorem ok_lnx {f f1 : Addr} {fd fd1 : FuncData} (F : Fun K "_law_next" "_law_next" sLNx f fd) (LL : Has P w K mg base 2 "_law_left" ["_law_model_here", "_law_who"] (spLLf K) f1 fd1) : FnOk P w K mg base CX0 3 f fd ["_law_model_here", "_law_who"] (spLNx K) := by
  refine F.ok scLNx (fun vs H Q E h => ?_) (fun cdv Ar outer s H vs Q E hr h => ?_)
  · obtain ⟨_, _, _, _, rfl, _⟩ := h
    rfl
  · obtain ⟨a, D, zs, z, rfl, hM, g, hz, q⟩ := h
    refine ⟨_, pss_cons (ps_set (i := 2) scLNx.nd rfl (.inl rfl) (pe_call LL.ok hr (by rfl) LL.g LL.kp LL.b .nil pass0 (pa_cons (pv 0) (pa_cons (pv 1) pa_nil))))
      (pss_one (ps_ret (pe_ifExp (pt_cmpR (op_neD hr.units) (pv 2) (pe_lst pa_nil) (nomark _)) (pe_ix ix_tup (pe_ix ix_list (pv 2) pe_int (fun _ _ => rfl)) pe_int (fun _ _ => rfl)) pe_non))), ?_⟩
    have ej := idx_get hz
    obtain ⟨gv, f', l', r, xs, eg, ef, el, er, hr0, hd0⟩ := hM.at_ ej
    have ll := g.rows l' (List.mem_of_getElem? el)
    have en := nxD_at hM.zn ej el ef
    have gl := g.left el ef
    refine ⟨.ref a.m, rfl, .str z, rfl, a, D, zs, z, _, l', f', rfl, hM, ej, el, ef, by omega, fun m mx H1 s1 nm hm dm => ?_⟩
    rw [en] at q
    generalize leftN l' f' = L at dm q gl
    refine ⟨.ref m, rfl, Nat.zero_le _, fun e ne => ?_⟩
    have s2 := same_upd (o := .lst []) ne
    have he : upd H1 e (.lst []) e = some (.lst []) := upd_same
    generalize upd H1 e (.lst []) = H2 at s2 he
    have hm2 := s2 _ _ hm
    have dm2 := DtAll.same s2 _ dm
    refine ⟨.list (notesD L), .list [], notes_dp hm2 dm2, .lst (.inl (.inl he)) .nil, nice_shaped (nice_notes g.nz.nm gl).list, shaped_nil, _, rfl, ?_⟩
    cases L with
    | nil => exact iteF (q H2 (s1.trans s2))
    | cons n t =>
      cases dm2 with
      | cons d1 d2 =>
        rename_i x xr
        obtain ⟨ta, rfl, qt⟩ := note_inv d1
        exact iteT ⟨.ref m, rfl, m, _, 0, .ref ta, rfl, rfl, .inl (.inl hm2), atI_nat (j := 0) rfl, ta, _, 0, .str n.1, rfl, rfl, qt, rfl, q H2 (s1.trans s2)⟩
/-! ### _law_trail -/
abbrev sLTr : Stmt := topS 61
theorem scLTr : FnScope ["_law_model_here", "_law_who", "_law_found", "_law_here"] ["_law_model_here", "_law_who"] (defScope sLTr) := ⟨rfl, rfl, rfl, by decide +kernel, rfl, by decide +kernel, by decide +kernel⟩
def spLTr (K : PySem.W.Frag) : Sp := fun vs H Q _ => ∃ (a : MdA) (D : Md) (zs : List Str) (z : Str), vs = [.ref a.m, .str z] ∧ ModelAt K H zs a D ∧ Gs zs D ∧ z ∈ zs ∧
  ∀ T t H', Same H H' → H t = none → H' T = some (.tup [.ref t, nxV (endM zs (nxD zs D) z)]) → H' t = some (.lst ((trailM zs (nxD zs D) z).map V.str)) → Q (.ref T) H'
theorem ok_ltr {f f1 : Addr} {fd fd1 : FuncData} (F : Fun K "_law_trail" "_law_trail" sLTr f fd) (LN : Has P w K mg base 3 "_law_next" ["_law_model_here", "_law_who"] (spLNx K) f1 fd1) : FnOk P w K mg base CX0 4 f fd ["_law_model_here", "_law_who"] (spLTr K) := by
  refine F.ok scLTr (fun vs H Q E h => ?_) (fun cdv Ar outer s H vs Q E hr h => ?_)
  · obtain ⟨_, _, _, _, rfl, _⟩ := h
    rfl
  · obtain ⟨a, D, zs, z, rfl, hM, g, hz, q⟩ := h
    refine ⟨_, pss_cons (ps_set (i := 2) scLTr.nd rfl (.inl rfl) (pe_lst (pa_cons (pv 1) pa_nil)))
      (pss_cons (ps_set (i := 3) scLTr.nd rfl (.inl rfl) (pe_call LN.ok hr (by rfl) LN.g LN.kp LN.b .nil pass0 (pa_cons (pv 0) (pa_cons (pv 1) pa_nil))))
      (pss_cons (ps_while PassesOwn.never (PW.pt (pw_and (pt_cmpR op_notN (pv 3) pe_non (nomark _)) (pw_and1 (pt_cmpR op_notIn_seq (pv 3) (pv 2) (by rfl)))))
        (pss_cons (ps_expr (pe_bm PySem.F.plainAttrs_list PySem.F.slot_list_append PySem.F.type_list_append mt_append (pv 2) (pa_cons (pv 3) pa_nil)))
        (pss_one (ps_set (i := 3) scLTr.nd rfl (.inl rfl) (pe_call LN.ok hr (by rfl) LN.g LN.kp LN.b .nil pass0 (pa_cons (pv 0) (pa_cons (pv 3) pa_nil)))))))
      (pss_one (ps_ret (pe_tup (pa_cons (pv 2) (pa_cons (pe_ifExp (pt_cmpR op_isN (pv 3) pe_non (nomark _)) (pe_ix ix_list (pv 2) (pe_un un_neg pe_int) (fun _ _ => rfl)) pe_non) pa_nil))))))), ?_⟩
    have wk := g.walks
    refine ⟨.str z, rfl, by show 1 ≤ sizeLine; decide, fun t nt => ?_⟩
    have s1 := same_upd (o := .lst [V.str z]) nt
    have ht1 : upd H t (.lst [V.str z]) t = some (.lst [V.str z]) := upd_same
    generalize upd H t (.lst [V.str z]) = H1 at s1 ht1
    refine ⟨.ref a.m, rfl, .str z, rfl, a, D, zs, z, rfl, model_same hM s1, g, hz, fun H2 s2 => ?_⟩
    refine ⟨fun k σ H' => ∃ acc o, σ = [some (.ref a.m), some (.str z), some (.ref t), some (nxV o)] ∧ Same H H' ∧ H' t = some (.lst (List.map V.str acc)) ∧ TrailAt zs (nxD zs D) z k acc o,
      ⟨zs.length, [z], nxD zs D z, rfl, s1.trans s2, s2 _ _ ht1, TrailAt.start hz⟩, ?_⟩
    rintro k σ H' ⟨acc, o, rfl, s3, ht, ta⟩
    have lacc : acc.length ≤ 12 := Nat.le_trans (nodup_le _ _ ta.nd ta.sub) wk.lz
    have fin : (o = none ∨ ∃ y, o = some y ∧ y ∈ acc) → tRet (tTup (tCons (tVar 2) (tCons (tIf (tTest (tOp (fun x y H Q => y = .non ∧ Q (.bl (decide (x = .non))) H) (tVar 3) (tC .non))) (tOp (rIxL K) (tVar 2) (tUn (rU fun i => .int (-i)) (tC (.int 1)))) (tC .non)) tNil))) { nx := fun _ H' => Q .non H', rt := Q } [some (.ref a.m), some (.str z), some (.ref t), some (nxV o)] H' := fun hend => by
      obtain ⟨ea, en⟩ := ta.ended hend
      obtain ⟨ini, y, eT, eL⟩ := en.last
      have eL2 := lastM_eq eT
      have ee : endM zs (nxD zs D) z = if o = none then some y else none := by
        unfold endM
        rw [eL2, eL]
      refine ⟨.ref t, rfl, nxV o, rfl, rfl, _, rfl, ?_⟩
      have stop : ∀ v, v = nxV (endM zs (nxD zs D) z) → [V.ref t, v].length ≤ sizeLine ∧ ∀ p, H' p = none → Q (.ref p) (upd H' p (.tup [.ref t, v])) := fun v ev => by
        refine ⟨by show 2 ≤ sizeLine; decide, fun p np => ?_⟩
        rw [ev]
        refine q p t _ (s3.trans (same_upd np)) nt upd_same ?_
        rw [← ea]
        exact same_upd np _ _ ht
      cases o with
      | none =>
        rw [show decide (nxV none = .non) = true from decide_eq_true rfl]
        refine iteT ⟨.ref t, rfl, _, rfl, t, _, -1, .str y, rfl, rfl, .inl (.inl ht), ?_, ?_⟩
        · rw [ea, eT, List.map_append]
          exact atI_last _ _
        · exact stop _ (by rw [ee]; rfl)
      | some x =>
        rw [show decide (nxV (some x) = .non) = false from decide_eq_false (fun c => by cases c)]
        exact iteF (stop _ (by rw [ee]; rfl))
    cases o with
    | none =>
      refine ⟨nxV none, rfl, rfl, _, rfl, ?_⟩
      rw [show decide (nxV none = .non) = true from decide_eq_true rfl]
      exact iteF (iteF (fin (.inl rfl)))
    | some y =>
      refine ⟨nxV (some y), rfl, rfl, _, rfl, ?_⟩
      rw [show decide (nxV (some y) = .non) = false from decide_eq_false (fun c => by cases c)]
      refine iteT ⟨.str y, rfl, .ref t, rfl, t, _, rfl, .inl (.inl (.inl ht)), rfl, flat_strs _, _, rfl, ?_⟩
      show if (!inV (.str y) (acc.map V.str)) = true then _ else _
      rw [inV_strs]
      by_cases hin : y ∈ acc
      · rw [decide_eq_true hin]
        exact iteF (fin (.inr ⟨y, rfl, hin⟩))
      · rw [decide_eq_false hin]
        obtain ⟨k', rfl, ta'⟩ := ta.step wk.ld hin
        refine iteT ⟨fun σ2 H2 => ∃ acc o, σ2 = [some (.ref a.m), some (.str z), some (.ref t), some (nxV o)] ∧ Same H H2 ∧ H2 t = some (.lst (List.map V.str acc)) ∧ TrailAt zs (nxD zs D) z k' acc o, fun σ2 H2 h2 => ⟨k', by omega, h2⟩, ?_⟩
        refine ⟨.ref t, rfl, .inl ⟨rfl, _, .inl (.inl ht)⟩, .str y, rfl, t, _, _, rfl, rfl, ht, by rw [List.length_map]; exact small1000 (by omega), ?_⟩
        have s4 : Same H (upd H' t (.lst (acc.map V.str ++ [.str y]))) := fun c u ec => by
          rw [upd_ne (ne_of_none ec nt)]
          exact s3 c u ec
        have hy : y ∈ zs := by
          obtain ⟨_, x, _, ex⟩ := ta.last
          exact wk.ld x y ex.symm
        refine ⟨.ref a.m, rfl, .str y, rfl, a, D, zs, y, rfl, model_same hM s4, g, hy, fun H5 s5 => ?_⟩
        refine ⟨acc ++ [y], nxD zs D y, rfl, s4.trans s5, s5 _ _ ?_, ta'⟩
        rw [upd_same, List.map_append]
        rfl
/-! ### _law_ring -/
abbrev sLRg : Stmt := topS 62
abbrev nLRg : List Str := ["_law_model_here", "_law_who", "_law_found", "_law_end", "_law_first", "_law_at", "_law_name_here"]
theorem scLRg : FnScope nLRg ["_law_model_here", "_law_who"] (defScope sLRg) := ⟨rfl, rfl, rfl, by decide +kernel, rfl, by decide +kernel, by decide +kernel⟩
def spLRg (K : PySem.W.Frag) : Sp := fun vs H Q _ => ∃ (a : MdA) (D : Md) (zs : List Str) (z : Str), vs = [.ref a.m, .str z] ∧ ModelAt K H zs a D ∧ Gs zs D ∧ z ∈ zs ∧ ∀ v H', Same H H' → RingV H H' v (ringM zs (nxD zs D) z) → Q v H'
theorem ok_lrg {f f1 f2 : Addr} {fd fd1 fd2 : FuncData} (F : Fun K "_law_ring" "_law_ring" sLRg f fd) (B2 : Blt2 mg) (LN : Has P w K mg base 3 "_law_next" ["_law_model_here", "_law_who"] (spLNx K) f1 fd1) (LT : Has P w K mg base 4 "_law_trail" ["_law_model_here", "_law_who"] (spLTr K) f2 fd2) :
    FnOk P w K mg base CX0 5 f fd ["_law_model_here", "_law_who"] (spLRg K) := by
  refine F.ok scLRg (fun vs H Q E h => ?_) (fun cdv Ar outer s H vs Q E hr h => ?_)
  · obtain ⟨_, _, _, _, rfl, _⟩ := h
    rfl
  · obtain ⟨a, D, zs, z, rfl, hM, g, hz, q⟩ := h
    have hu := hu_of hr
    have hr3 := hr.mono (show 3 ≤ 4 by decide)
    refine ⟨_, pss_cons (ps_asg (pe_call LT.ok hr (by rfl) LT.g LT.kp LT.b .nil pass0 (pa_cons (pv 0) (pa_cons (pv 1) pa_nil))) (pg_tup rfl (pgs_cons (pg_name (i := 2) scLRg.nd rfl (.inl rfl)) (pgs_cons (pg_name (i := 3) scLRg.nd rfl (.inl rfl)) pgs_nil))))
      (pss_cons (ps_if (PW.pt (pw_or (pt_cmpR op_notN (pv 3) pe_non (nomark _)) (pw_or1 (pt_cmpR op_ne (pe_call LN.ok hr3 (by rfl) LN.g LN.kp LN.b .nil pass0 (pa_cons (pv 0) (pa_cons (pe_ix ix_list (pv 2) (pe_un un_neg pe_int) (fun _ _ => rfl)) pa_nil))) (pv 1) (nomark _))))) (pss_one (ps_ret pe_non)) pss_nil)
      (pss_cons (ps_set (i := 4) scLRg.nd rfl (.inl rfl) (pe_callB (cr_min rfl) (by rfl) B2.min (by decide +kernel) (pa_cons
        (pe_lc (own := [("_law_name_here", 6)]) (g := gName 6) (tt := tYes) (te := tBM K "list" (rIndex K) (tDGet (tVar 0) (tC (.str "order"))) (tCons (tVar 6) tNil)) rfl scLRg.nd (pi_list (pv 2)) (blkOk_by (N := nLRg) (sc := defScope sLRg) (own := [("_law_name_here", 6)]) (by decide +kernel))
          (fun _ _ _ _ _ => pg_name (i := 6) scLRg.nd rfl (.inl rfl) (hf := .inr rfl)) (fun _ _ _ _ _ => pts_nil)
          (fun _ _ _ _ _ => pe_bmK (K := K) rfl PySem.F.plainAttrs_list PySem.F.slot_list_index PySem.F.type_list_index (mt_indexS (K := K) rfl) (pe_dget hu (pv 0) pe_str (fun _ _ => rfl)) (pa_cons (pv 6) pa_nil))) pa_nil)))
      (pss_cons (ps_set (i := 5) scLRg.nd rfl (.inl rfl) (pe_bm PySem.F.plainAttrs_list PySem.F.slot_list_index PySem.F.type_list_index mt_index (pv 2) (pa_cons (pe_ix ix_list (pe_dget hu (pv 0) pe_str (fun _ _ => rfl)) (pv 4) (fun _ _ => rfl)) pa_nil)))
      (pss_one (ps_ret (pe_op op_cat (pe_slice sl_list (pv 2) (po_some (pv 5)) po_none) (pe_slice sl_list (pv 2) po_none (po_some (pv 5))))))))), ?_⟩
    have wk := g.walks
    have en := trail_ended wk.ld hz
    obtain ⟨ini, y, eT, eL⟩ := en.last
    have hyT : y ∈ trailM zs (nxD zs D) z := by
      rw [eT]
      exact List.mem_append.mpr (.inr List.mem_cons_self)
    have hy : y ∈ zs := en.sub y hyT
    have eL2 := lastM_eq eT
    have hzT : z ∈ trailM zs (nxD zs D) z := by
      obtain ⟨r, er⟩ := en.first
      rw [er]
      exact List.mem_cons_self
    have lT : (trailM zs (nxD zs D) z).length ≤ 12 := Nat.le_trans (nodup_le _ _ en.nd en.sub) wk.lz
    have sub := en.sub
    refine ⟨.ref a.m, rfl, .str z, rfl, a, D, zs, z, rfl, hM, g, hz, fun TT t H1 s1 nt hTT ht => ?_⟩
    refine ⟨TT, _, rfl, .inl (.inl hTT), rfl, _, _, rfl, _, _, rfl, rfl, ?_⟩
    have er : ringM zs (nxD zs D) z = if nxD zs D y = some z then some ((trailM zs (nxD zs D) z).drop ((trailM zs (nxD zs D) z).idxOf (firstM zs (trailM zs (nxD zs D) z))) ++ (trailM zs (nxD zs D) z).take ((trailM zs (nxD zs D) z).idxOf (firstM zs (trailM zs (nxD zs D) z)))) else none := by
      unfold ringM
      rw [eL2]
    have ee : endM zs (nxD zs D) z = if nxD zs D y = none then some y else none := by
      unfold endM
      rw [eL2]
    rw [er] at q
    rw [ee]
    have hM1 := model_same hM s1
    generalize trailM zs (nxD zs D) z = TT at hzT lT ht eT hyT q sub
    cases ho : nxD zs D y with
    | none =>
      rw [ho] at q
      refine ⟨.str y, rfl, rfl, _, rfl, ?_⟩
      rw [decide_eq_false (fun c => by cases c)]
      exact iteT (iteT (q .non H1 s1 rfl))
    | some x =>
      rw [ho] at q
      refine ⟨.non, rfl, rfl, _, rfl, ?_⟩
      rw [decide_eq_true rfl]
      refine iteF ⟨.ref a.m, rfl, .ref t, rfl, _, rfl, t, _, -1, .str y, rfl, rfl, .inl (.inl ht), ?_, a, D, zs, y, rfl, hM1, g, hy, fun H2 s2 => ?_⟩
      · rw [eT, List.map_append]
        exact atI_last _ _
      rw [ho]
      have s12 := s1.trans s2
      have hM2 := model_same hM s12
      have ht2 := s2 _ _ ht
      refine ⟨.str z, rfl, rfl, _, rfl, ?_⟩
      by_cases hx : x = z
      · rw [show decide (nxV (some x) = V.str z) = true from decide_eq_true (by rw [hx]; rfl)]
        rw [if_pos (congrArg some hx)] at q
        refine iteF ?_
        refine ⟨.ref t, rfl, t, rfl, ⟨_, .inl (.inl ht2)⟩, fun D0 nD0 => ?_⟩
        refine lc_it (walk_list (K := K) (a := t) (xs := TT.map V.str)) (fun i H' => Same H2 H' ∧ H' D0 = some (.lst (((TT.take i).map fun x => ((zs.idxOf x : Nat) : Int)).map V.int))) ⟨same_upd nD0, upd_same⟩ (fun i H' _ hP => .inl (.inl (hP.1 _ _ ht2)))
          (fun i v H3' H3 hi hP hY => ?_) (fun H3 hP => ?_)
        · obtain ⟨rfl, hv⟩ := hY
          rw [List.length_map] at hi
          have ex : v = .str TT[i] := by
            rw [List.getElem?_map, List.getElem?_eq_getElem hi] at hv
            exact (Option.some.inj hv).symm
          subst ex
          have hM3 := model_same hM2 hP.1
          have hin : TT[i] ∈ zs := sub _ (List.getElem_mem hi)
          refine ⟨rfl, .ref a.m, rfl, a.m, .ref a.lo, rfl, hM3.g0, .inl ⟨rfl, _, .inl (.inl hM3.ho)⟩, _, rfl, a.lo, _, _, zs.idxOf TT[i], .str TT[i], rfl, rfl, .inl (.inl hM3.ho), rfl, flat_strs _, map_get (idx_get hin), by rw [str_eqV]; simp, fun m z' hm e' => ?_, _, hP.2, ?_, fun c o ec => ?_, ?_⟩
          · rw [List.getElem?_map] at e'
            obtain ⟨x', ex, rfl⟩ := Option.map_eq_some_iff.mp e'
            rw [str_eqV]
            exact beq_eq_false_iff_ne.mpr (idx_first hm ex)
          · rw [List.length_map, List.length_map, List.length_take]
            exact small1000 (by omega)
          · rw [upd_ne (ne_of_none ec nD0)]
            exact hP.1 c o ec
          · rw [upd_same, take_succ hi, List.map_append, List.map_append]
            rfl
        · obtain ⟨s3, hD0⟩ := hP
          rw [List.length_map, List.take_length] at hD0
          refine ⟨D0, TT.map fun x => ((zs.idxOf x : Nat) : Int), rfl, .inl (.inl hD0), by rw [List.length_map]; exact List.length_pos_of_mem hzT, fun m hm hmin => ?_⟩
          obtain ⟨f0, hf0, rfl⟩ := List.mem_map.mp hm
          have f0z : f0 ∈ zs := sub f0 hf0
          have e1 : firstM zs TT = f0 := first_min wk.nd (idx_get f0z) hf0 fun x' hx' => by
            have := hmin _ (List.mem_map.mpr ⟨x', hx', rfl⟩)
            omega
          rw [e1] at q
          have hM3 := model_same hM2 s3
          have ht3 := s3 _ _ ht2
          refine ⟨.ref t, rfl, .inl ⟨rfl, _, .inl (.inl ht3)⟩, .ref a.m, rfl, a.m, .ref a.lo, rfl, hM3.g0, _, rfl, a.lo, _, _, .str f0, rfl, rfl, .inl (.inl hM3.ho), atI_nat (map_get (idx_get f0z)), ?_⟩
          refine ⟨t, _, .str f0, TT.idxOf f0, .str f0, rfl, rfl, .inl (.inl ht3), rfl, flat_strs _, map_get (idx_get hf0), by rw [str_eqV]; simp, fun m z' hm e' => ?_, ?_⟩
          · rw [List.getElem?_map] at e'
            obtain ⟨x', ex, rfl⟩ := Option.map_eq_some_iff.mp e'
            rw [str_eqV]
            exact beq_eq_false_iff_ne.mpr (idx_first hm ex)
          · refine ⟨.ref t, rfl, .int (TT.idxOf f0 : Nat), rfl, _, rfl, t, _, rfl, .inl (.inl ht3), fun p1 n1 => ?_⟩
            rw [cut_drop, ← List.map_drop]
            have s4 := same_upd (o := .lst ((TT.drop (TT.idxOf f0)).map V.str)) n1
            refine ⟨.ref t, rfl, .int (TT.idxOf f0 : Nat), rfl, _, rfl, t, _, rfl, .inl (.inl (s4 _ _ ht3)), fun p2 n2 => ?_⟩
            rw [cut_take, ← List.map_take]
            have s5 := same_upd (o := .lst ((TT.take (TT.idxOf f0)).map V.str)) n2
            refine ⟨p1, p2, _, _, rfl, rfl, s5 _ _ upd_same, upd_same, ?_, fun p np => ?_⟩
            · rw [List.length_map, List.length_map, List.length_drop, List.length_take]
              exact small_line (by omega)
            · have s6 := same_upd (o := .lst ((TT.drop (TT.idxOf f0)).map V.str ++ (TT.take (TT.idxOf f0)).map V.str)) np
              refine q (.ref p) _ (s12.trans (s3.trans (s4.trans (s5.trans s6)))) ⟨p, rfl, (s12.trans (s3.trans (s4.trans s5))).free np, ?_⟩
              rw [upd_same, List.map_append]
      · rw [show decide (nxV (some x) = V.str z) = false from decide_eq_false (fun c => hx (V.str.inj c))]
        rw [if_neg (fun c => hx (Option.some.inj c))] at q
        exact iteT (q .non H2 s12 rfl)
end
end Rc

namespace Rc
open PySem PySem.Spec PyProof.Rows L2 RZ
/-! ### the model's own changes -/
section
variable {K : PySem.W.Frag} {H : Hp} {zs : List Str} {a : MdA} {D : Md}
theorem ModelAt.ofm (h : ModelAt K H zs a D) (n0 : 1 ≤ zs.length) : a.df ≠ a.m := fun z => by
  have e := h.hf
  rw [z, h.hm] at e
  have e1 : dct keysM [.ref a.lo, .ref a.dg, .ref a.df, .ref a.dn] = dct zs (D.fallen.map V.int) := HO.dK.inj (Option.some.inj e)
  have l2 := h.lf
  match zs, D.fallen, n0, l2, e1 with
  | z :: r, y :: u, _, _, e1 =>
    rw [List.map_cons, dct_cons] at e1
    unfold keysM at e1
    rw [dct_cons] at e1
    cases e1
/-- another sum fallen -/
theorem ModelAt.setF (hM : ModelAt K H zs a D) (n0 : 1 ≤ zs.length) {j : Nat} (g : Int) : ModelAt K (upd H a.df (.dK (dct zs ((D.fallen.set j g).map V.int)))) zs a { D with fallen := D.fallen.set j g } := by
  have kt : KT H (upd H a.df (.dK (dct zs ((D.fallen.set j g).map V.int)))) := kt_upd hM.hf fun z => z
  have lne : ∀ {c : Addr} {ys : List V}, H c = some (.lst ys) → c ≠ a.df := fun {c ys} e z => by
    rw [z, hM.hf] at e
    cases e
  refine ⟨?_, ?_, ?_, ?_, ?_, fun i r l e1 e2 => ?_, hM.nd, hM.olo, hM.ogf, hM.ogn, hM.ogm, hM.omn, hM.zn, hM.lg, ?_, hM.ln, hM.lr⟩
  · rw [upd_ne (hM.ofm n0).symm]
    exact hM.hm
  · rw [upd_ne (lne hM.ho)]
    exact hM.ho
  · rw [upd_ne hM.ogf]
    exact hM.hg
  · rw [upd_same]
  · rw [upd_ne (hM.ofn n0).symm]
    exact hM.hn
  · obtain ⟨xs, e3, d3⟩ := hM.rows i r l e1 e2
    refine ⟨xs, ?_, DtAll.keepT kt _ (tup_notes l) d3⟩
    rw [upd_ne (lne e3)]
    exact e3
  · show (D.fallen.set _ _).length = _
    rw [List.length_set]
    exact hM.lf
/-- one note more -/
theorem ModelAt.app (hM : ModelAt K H zs a D) {j : Nat} {r t : Addr} {xs : List V} {l : List (Str × Int)} {y : Str} {n : Int} (er : a.rs[j]? = some r) (el : D.notes[j]? = some l) (hr0 : H r = some (.lst xs)) (hd0 : DtAll K H xs (notesD l)) (nt : H t = none) :
    ModelAt K (upd (upd H t (.tup [.str y, .int n])) r (.lst (xs ++ [.ref t]))) zs a { D with notes := D.notes.set j (l ++ [(y, n)]) } ∧ ButF a H (upd (upd H t (.tup [.str y, .int n])) r (.lst (xs ++ [.ref t]))) := by
  have tr : t ≠ r := (ne_of_none hr0 nt).symm
  have rm : r ∈ a.rs := List.mem_of_getElem? er
  have bf' : ButF a H (upd (upd H t (.tup [V.str y, V.int n])) r (.lst (xs ++ [V.ref t]))) := fun b o nf e => by
    have nb : b ≠ r := fun z => nf (.inr (by rw [z]; exact rm))
    rw [upd_ne nb, upd_ne (ne_of_none e nt)]
    exact e
  have keepD : ∀ {b : Addr} {o : HO}, b ≠ r → H b = some o → upd (upd H t (.tup [V.str y, V.int n])) r (.lst (xs ++ [V.ref t])) b = some o := fun {b o} n e => by
    rw [upd_ne n, upd_ne (ne_of_none e nt)]
    exact e
  have dne : ∀ {b : Addr} {kvs : List (Key × V)}, H b = some (.dK kvs) → b ≠ r := fun {b kvs} e z => by
    rw [z, hr0] at e
    cases e
  have hkt := bf'.kt hM
  refine ⟨⟨keepD (dne hM.hm) hM.hm, keepD (fun z => hM.olo (by rw [z]; exact rm)) hM.ho, keepD (dne hM.hg) hM.hg, keepD (dne hM.hf) hM.hf, keepD (dne hM.hn) hM.hn, fun i r' l' e1 e2 => ?_, hM.nd, hM.olo, hM.ogf, hM.ogn, hM.ogm, hM.omn, hM.zn, hM.lg, hM.lf, ?_, hM.lr⟩, bf'⟩
  · by_cases hi : i = j
    · have er' : r' = r := by
        rw [hi, er] at e1
        exact (Option.some.inj e1).symm
      subst er'
      have e2' : (D.notes.set j (l ++ [(y, n)]))[i]? = some l' := e2
      have hj : j < D.notes.length := (List.getElem?_eq_some_iff.mp el).1
      rw [hi, List.getElem?_set_self hj] at e2'
      cases e2'
      refine ⟨_, upd_same, ?_⟩
      unfold notesD
      rw [List.map_append]
      refine (DtAll.keepT hkt _ (tup_notes l) hd0).append (.cons (.tup (.inl (.inl ?_)) (.cons (.str _) (.cons (.int _) .nil))) .nil)
      rw [upd_ne tr, upd_same]
    · have e2' : (D.notes.set j (l ++ [(y, n)]))[i]? = some l' := e2
      rw [List.getElem?_set_ne (fun c => hi c.symm)] at e2'
      obtain ⟨xs', e3, d3⟩ := hM.rows i r' l' e1 e2'
      have nr' : r' ≠ r := fun c => by
        obtain ⟨h1, k1⟩ := List.getElem?_eq_some_iff.mp e1
        obtain ⟨h2, k2⟩ := List.getElem?_eq_some_iff.mp er
        exact hi ((List.getElem_inj hM.nd).mp (k1.trans (c.trans k2.symm)))
      exact ⟨xs', keepD nr' e3, DtAll.keepT hkt _ (tup_notes l') d3⟩
  · show (D.notes.set _ _).length = _
    rw [List.length_set]
    exact hM.ln
end
/-! ### where nothing has fallen yet -/
theorem Gd.gs {zs : List Str} {D : Md} {k : Nat} (h : Gd zs D k) (nz : NamesOk zs) (lg : D.given.length = zs.length) (ln : D.notes.length = zs.length) : Gs zs D := by
  refine ⟨nz, h.nt, fun f hf => ?_, Nat.le_trans h.my h.k1, lg, ?_, ln, fun j z ej => ?_⟩
  · rw [h.zf] at hf
    rw [List.eq_of_mem_replicate hf]
    exact Int.le_refl _
  · rw [h.zf]
    exact List.length_replicate
  · have hj : j < zs.length := (List.getElem?_eq_some_iff.mp ej).1
    have hg : j < D.given.length := by omega
    have hf : D.fallen[j]? = some 0 := by
      rw [h.zf]
      show (List.replicate zs.length (0 : Int))[j]? = some 0
      rw [List.getElem?_replicate, if_pos hj]
    rw [cash_eq]
    unfold cashD
    rw [h.sums, getD_of (List.getElem?_eq_getElem hg), getD_of hf]
    have := (h.gv _ (List.getElem_mem hg)).1
    omega
/-! ### what a fall does -/
theorem sum_zip_set {α : Type} (F : List (Str × Int) × Int → Int) : ∀ (L : List (List (Str × Int))) (fs : List Int) (j : Nat) (l : List (Str × Int)) (f x : Int), L[j]? = some l → fs[j]? = some f →
    ((L.zip (fs.set j x)).map F).sum = ((L.zip fs).map F).sum + (F (l, x) - F (l, f))
  | [], _, _, _, _, _, h, _ => by simp at h
  | _ :: _, [], _, _, _, _, _, h => by simp at h
  | a :: L, b :: fs, 0, l, f, x, h1, h2 => by
    simp at h1 h2
    subst h1 h2
    simp only [List.set_cons_zero, List.zip_cons_cons, List.map_cons, List.sum_cons]
    omega
  | a :: L, b :: fs, j + 1, l, f, x, h1, h2 => by
    have ih := sum_zip_set (α := α) F L fs j l f x (by simpa using h1) (by simpa using h2)
    simp only [List.set_cons_succ, List.zip_cons_cons, List.map_cons, List.sum_cons]
    omega
def fellD (D : Md) (j : Nat) (x : Int) : Md := { D with fallen := D.fallen.set j x }
theorem fellD_cash {zs : List Str} {D : Md} {j : Nat} {z t : Str} {l r : List (Str × Int)} {f m b : Int} (g : Gs zs D) (ej : zs[j]? = some z) (el : D.notes[j]? = some l) (ef : D.fallen[j]? = some f) (e : leftN l f = (t, b) :: r) (m0 : 0 ≤ m) (mb : m ≤ b)
    {i : Nat} {y : Str} (ei : zs[i]? = some y) : cashM (bkOf zs (fellD D j (f + m))) i y = cashM (bkOf zs D) i y + (if t = y then m else 0) - (if i = j then m else 0) := by
  have f0 := g.fl f (List.mem_of_getElem? ef)
  obtain ⟨_, h2⟩ := fall_one (fun n hn => (g.nt l (List.mem_of_getElem? el) n hn).2.1) f0 m0 mb e
  have e1 : fallTo (bkOf zs (fellD D j (f + m))) y = fallTo (bkOf zs D) y + (if t = y then m else 0) := by
    show ((D.notes.zip (D.fallen.set j (f + m))).map fun p => sumTo y (goneN p.1 p.2)).sum = ((D.notes.zip D.fallen).map fun p => sumTo y (goneN p.1 p.2)).sum + _
    rw [sum_zip_set (α := Nat) (fun p => sumTo y (goneN p.1 p.2)) D.notes D.fallen j l f (f + m) el ef]
    show _ + (sumTo y (goneN l (f + m)) - sumTo y (goneN l f)) = _
    rw [h2 y]
    omega
  have e2 : (bkOf zs (fellD D j (f + m))).drops.getD i 0 = (bkOf zs D).drops.getD i 0 + (if i = j then m else 0) := by
    show (D.fallen.set j (f + m)).getD i 0 = D.fallen.getD i 0 + _
    by_cases h : i = j
    · subst h
      rw [if_pos rfl, getD_of ef]
      have hj : i < D.fallen.length := (List.getElem?_eq_some_iff.mp ef).1
      rw [getD_of (List.getElem?_set_self hj)]
    · rw [if_neg h, List.getD_eq_getElem?_getD, List.getElem?_set_ne (fun c => h c.symm), List.getD_eq_getElem?_getD]
      omega
  unfold cashM
  rw [e1, e2]
  show (bkOf zs D).gifts.getD i 0 + _ - _ = _
  omega
theorem moreAt_one (z : Str) (m : Int) (y : Str) : moreAt [(z, m)] y = if z = y then m else 0 := by
  unfold moreAt
  by_cases h : z = y <;> simp [h]
theorem fell_eq {zs : List Str} {D : Md} {j : Nat} {z : Str} {f m : Int} (nd : zs.Nodup) (lf : D.fallen.length = zs.length) (ej : zs[j]? = some z) (ef : D.fallen[j]? = some f) : fallM (bkOf zs D) [(z, m)] = bkOf zs (fellD D j (f + m)) := by
  have e : ((zs.zip D.fallen).map fun p => p.2 + moreAt [(z, m)] p.1) = D.fallen.set j (f + m) := by
    refine List.ext_getElem? fun i => ?_
    rw [List.getElem?_map]
    by_cases hi : i < zs.length
    · have hf : i < D.fallen.length := by omega
      rw [List.getElem?_zip_eq_some (z := (zs[i], D.fallen[i])) |>.mpr ⟨List.getElem?_eq_getElem hi, List.getElem?_eq_getElem hf⟩]
      show some (D.fallen[i] + moreAt [(z, m)] zs[i]) = _
      rw [moreAt_one]
      obtain ⟨hj, ez⟩ := List.getElem?_eq_some_iff.mp ej
      obtain ⟨hjf, ev⟩ := List.getElem?_eq_some_iff.mp ef
      by_cases h : i = j
      · subst h
        rw [if_pos ez.symm, List.getElem?_set_self hf, ev]
      · rw [if_neg (fun c => h ((List.getElem_inj nd).mp (c.symm.trans ez.symm))), List.getElem?_set_ne (fun c => h c.symm), List.getElem?_eq_getElem hf, Int.add_zero]
    · rw [List.getElem?_eq_none (by rw [List.length_zip]; omega), List.getElem?_eq_none (by rw [List.length_set]; omega)]
      rfl
  show Bk.mk zs D.given D.notes ((zs.zip D.fallen).map fun p => p.2 + moreAt [(z, m)] p.1) = _
  rw [e]
  rfl
/-- some of a due note falls: to oneself, or by cash -/
theorem Gs.fall {zs : List Str} {D : Md} {j : Nat} {z t : Str} {l r : List (Str × Int)} {f m b : Int} (g : Gs zs D) (ej : zs[j]? = some z) (el : D.notes[j]? = some l) (ef : D.fallen[j]? = some f) (e : leftN l f = (t, b) :: r) (m0 : 0 ≤ m) (mb : m ≤ b)
    (hc : t = z ∨ m ≤ cashM (bkOf zs D) j z) : Gs zs (fellD D j (f + m)) ∧ FallOk (bkOf zs D) [(z, m)] := by
  have f0 := g.fl f (List.mem_of_getElem? ef)
  obtain ⟨h1, _⟩ := fall_one (fun n hn => (g.nt l (List.mem_of_getElem? el) n hn).2.1) f0 m0 mb e
  have cs : ∀ (i : Nat) (y : Str), zs[i]? = some y → 0 ≤ cashM (bkOf zs (fellD D j (f + m))) i y := fun i y ei => by
    rw [fellD_cash g ej el ef e m0 mb ei]
    have c0 := g.cs i y ei
    by_cases h : i = j
    · subst h
      have ey : y = z := Option.some.inj (ei.symm.trans ej)
      subst ey
      rw [if_pos rfl]
      rcases hc with hc | hc
      · rw [if_pos hc]
        omega
      · have : 0 ≤ (if t = y then m else 0) := by split <;> omega
        omega
    · rw [if_neg h]
      have : 0 ≤ (if t = y then m else 0) := by split <;> omega
      omega
  refine ⟨⟨g.nz, g.nt, fun x hx => ?_, g.my, g.lg, ?_, g.ln, cs⟩, ?_, fun i y ei => ?_⟩
  · rcases List.mem_or_eq_of_mem_set hx with hx | hx
    · exact g.fl x hx
    · omega
  · show (D.fallen.set _ _).length = _
    rw [List.length_set]
    exact g.lf
  · intro p hp
    rw [List.mem_singleton.mp hp]
    exact ⟨j, l, f, ej, el, ef, m0, h1⟩
  · rw [fell_eq g.nz.nd g.lf ej ef]
    exact cs i y ei
end Rc

namespace Rc
open PySem PySem.Spec PyProof.Rows L2 RZ
/-! ### what is told, as data -/
def ringD : Option (List Str) → PyData
  | none => .none
  | some r => .list (r.map .str)
def endD : Option Str → PyData
  | none => .none
  | some z => .str z
theorem RingV.dt {K : PySem.W.Frag} {H H' : Hp} {v : V} {o : Option (List Str)} (h : RingV H H' v o) : Dt K H' v (ringD o) := by
  cases o with
  | none =>
    have e : v = .non := h
    subst e
    exact .non
  | some r =>
    obtain ⟨a, rfl, _, e⟩ := h
    exact .lst (.inl (.inl e)) (DtAll.strs r)
theorem end_dt {K : PySem.W.Frag} {H : Hp} (o : Option Str) : Dt K H (nxV o) (endD o) := by
  cases o with
  | none => exact .non
  | some z => exact .str z
theorem NiceD.mono {d : PyData} {n m : Nat} (h : NiceD d n) (hm : n ≤ m) : NiceD d m := ⟨h.sh, h.lv, h.nd, h.dp, Nat.le_trans h.bk hm, h.cl⟩
theorem nice_none : NiceD .none 0 :=
  ⟨by simp only [PyData.showable], by simp only [PyData.leavesShort], by simp only [PyData.hasDict], by simp only [PyData.depth]; omega, by simp only [PyData.bulk]; omega, by simp only [PyData.canLay0]⟩
/-- nice and shallow -/
structure NiceS (d : PyData) (n : Nat) : Prop where
  ok : NiceD d n
  dp : d.depth ≤ 4
theorem niceS_none : NiceS .none 200 := ⟨nice_none.mono (by decide), by simp only [PyData.depth]; omega⟩
theorem niceS_names {zs : List Str} (h : ∀ z ∈ zs, nameT z = true) (l : zs.length ≤ 12) : NiceS (.list (zs.map .str)) 200 := by
  refine ⟨(nice_names h).list.mono (by omega), ?_⟩
  simp only [PyData.depth]
  have := dep_map (f := PyData.str) (n := 0) (l := zs) fun _ _ => by simp only [PyData.depth]; omega
  omega
theorem niceS_name {z : Str} (h : nameT z = true) : NiceS (.str z) 200 := ⟨(nice_name h).mono (by decide), by simp only [PyData.depth]; omega⟩
theorem niceS_due {zs : List Str} (hz : ∀ z ∈ zs, nameT z = true) {o : Option (Str × Int)} (h : ∀ n, o = some n → NoteOk zs n) : NiceS (dueD o) 200 := by
  cases o with
  | none => exact niceS_none
  | some n =>
    obtain ⟨a, b⟩ := nice_note hz (h n rfl)
    exact ⟨a.mono (by decide), by show (noteD n).depth ≤ 4; omega⟩
theorem niceS_ring {o : Option (List Str)} (h : ∀ r, o = some r → (∀ z ∈ r, nameT z = true) ∧ r.length ≤ 12) : NiceS (ringD o) 200 := by
  cases o with
  | none => exact niceS_none
  | some r =>
    obtain ⟨a, b⟩ := h r rfl
    exact niceS_names a b
theorem niceS_end {o : Option Str} (h : ∀ z, o = some z → nameT z = true) : NiceS (endD o) 200 := by
  cases o with
  | none => exact niceS_none
  | some z => exact niceS_name (h z rfl)
inductive NiceL : List PyData → Prop
  | nil : NiceL []
  | cons {d : PyData} {ds : List PyData} : NiceS d 200 → NiceL ds → NiceL (d :: ds)
theorem NiceL.all : ∀ {ds : List PyData}, NiceL ds → NiceA ds (201 * ds.length)
  | _, .nil => NiceA.nil
  | _, .cons (ds := ds) a b => by
    have c := NiceA.cons a.ok a.dp (NiceL.all b)
    rw [List.length_cons]
    have e : 201 * (ds.length + 1) = 200 + 1 + 201 * ds.length := by omega
    rw [e]
    exact c
theorem NiceL.top {ds : List PyData} (h : NiceL ds) (l : ds.length ≤ 30) : NiceD (.list ds) 8000 := h.all.list.mono (by omega)
/-! ### rings and trails are of persons -/
theorem ring_names {zs : List Str} {nx : Str → Option Str} {z : Str} (nm : ∀ z ∈ zs, nameT z = true) (lz : zs.length ≤ 12) (c : Leads zs nx) (hz : z ∈ zs) : ∀ r, ringM zs nx z = some r → (∀ y ∈ r, nameT y = true) ∧ r.length ≤ 12 := fun r h => by
  have en := trail_ended c hz
  unfold ringM at h
  split at h
  · have e := Option.some.inj h
    subst e
    refine ⟨fun y hy => nm y (en.sub y ?_), ?_⟩
    · rcases List.mem_append.mp hy with hy | hy
      · exact List.mem_of_mem_drop hy
      · exact List.mem_of_mem_take hy
    · rw [List.length_append, List.length_drop, List.length_take]
      have := Nat.le_trans (nodup_le _ _ en.nd en.sub) lz
      omega
  · cases h
theorem trail_names {zs : List Str} {nx : Str → Option Str} {z : Str} (nm : ∀ z ∈ zs, nameT z = true) (lz : zs.length ≤ 12) (c : Leads zs nx) (hz : z ∈ zs) : (∀ y ∈ trailM zs nx z, nameT y = true) ∧ (trailM zs nx z).length ≤ 12 := by
  have en := trail_ended c hz
  exact ⟨fun y hy => nm y (en.sub y hy), Nat.le_trans (nodup_le _ _ en.nd en.sub) lz⟩
theorem end_names {zs : List Str} {nx : Str → Option Str} {z : Str} (nm : ∀ z ∈ zs, nameT z = true) (c : Leads zs nx) (hz : z ∈ zs) : ∀ y, endM zs nx z = some y → nameT y = true := fun y h => by
  have en := trail_ended c hz
  obtain ⟨ini, x, e1, _⟩ := en.last
  unfold endM at h
  split at h
  · have e := Option.some.inj h
    rw [lastM_eq e1] at e
    subst e
    exact nm _ (en.sub _ (by rw [e1]; exact List.mem_append.mpr (.inr List.mem_cons_self)))
  · cases h
/-! ### a note to oneself is a ring -/
theorem self_trail {zs : List Str} {nx : Str → Option Str} {z : Str} (h : nx z = some z) : trailM zs nx z = [z] := by
  unfold trailM
  rw [h, trailF_in List.mem_cons_self]
theorem self_last {zs : List Str} {nx : Str → Option Str} {z : Str} (h : nx z = some z) : lastM zs nx z = z := lastM_eq (ini := []) (self_trail h)
theorem self_ring {zs : List Str} {nx : Str → Option Str} {z : Str} (h : nx z = some z) (hz : z ∈ zs) : ringM zs nx z = some [z] := by
  obtain ⟨f, r, _, e1, e2, _⟩ := find_some (T := [z]) hz List.mem_cons_self
  have ef : f = z := List.mem_singleton.mp e2
  unfold ringM
  rw [self_last h, if_pos h, self_trail h, e1, ef]
  simp
theorem self_end {zs : List Str} {nx : Str → Option Str} {z : Str} (h : nx z = some z) : endM zs nx z = none := by
  unfold endM
  rw [self_last h, h]
  rfl
/-- x[0] if x != [] else None, x a list of notes -/
def tFirst (K : PySem.W.Frag) (i : Nat) : TE := fun σ H Q => ∃ (m : Addr) (mx : List V) (l : List (Str × Int)) (zs : List Str), σ[i]? = some (some (.ref m)) ∧ H m = some (.lst mx) ∧ DtAll K H mx (notesD l) ∧ (∀ n ∈ l, NoteOk zs n) ∧ (∀ z ∈ zs, nameT z = true) ∧
  ∀ v H', Same H H' → Dt K H' v (dueD l.head?) → Q v H'
end Rc

namespace Rc
open PySem PySem.Spec PyProof.Rows L2 RZ
/-! ### a built-in special method of an own class -/
section
variable {prog : Program} {w : World} {A : Around} {E : Value → Shared → Prop} {s : Shared} {h₀ : Heap} {L x y C f : Addr} {m : Str → Option Value} {K : PySem.W.Frag} {ox : Obj} {od : Option Obj}
theorem ifBoundB {M : Model} {name : Str} {id : String} {args : List Value} {Q : Option Value → Shared → Prop} (X : K.In s.heap) (I : PySem.W.InstAt s.heap x ox C od) (hs : PySem.W.findIn K (.ref C) name = some (some (.builtin id)))
    (S : ∀ self, bindSpecial (.builtin id) self = pure (.builtin id, [self])) (h : wpAny M A (call (.builtin id) (.ref x :: args)) (fun v => Q (some v)) E s) : wpAny M A (callSpecialIfBound? (.ref x) name args) Q E s := by
  simp only [callSpecialIfBound?, bindSpecialIfBound?]
  refine wpAny_holding (wpAny_bind (wpAny_bind (wpAny_bind (I.type.here ((PySem.W.looks_findIn X hs).here ?_)))))
  simp only [S]
  refine wpAny_bind (wpAny_askSetting (wpAny_ite ?_))
  have fin : wpAny M A (call (.builtin id) ([.ref x] ++ args) >>= fun v => pure (some v)) Q E s := wpAny_bind (wpAny_mono h (fun v s' h' => wpAny_pure h') fun _ _ h' => h')
  split
  · exact wpAny_bind (wpAny_pure (wpAny_pure fin))
  · exact wpAny_tryCatch (wpAny_bind (wpAny_pure (wpAny_pure fin)))
set_option maxHeartbeats 2000000 in
/-- a != b by an own == -/
theorem ne_own {Q : Value → Shared → Prop} (hu : A.units + 1 < cLine) (F : Fr h₀ L s.heap m) (X₀ : K.In h₀) (I : PySem.W.InstAt s.heap x ox C od) (hy : PySem.W.Looks (model prog w) s.heap (typeOf (.ref y)) (.ref C))
    (hne : PySem.W.findIn K (.ref C) "__ne__" = some (some (.builtin "object.__ne__"))) (heq : PySem.W.findIn K (.ref C) "__eq__" = some (some (.ref f))) (hf : PySem.W.isFn K (.ref f) = true) (ho : PySem.W.subIn K (.ref C) (.type "object") = some true)
    (h : wpAny (model prog w) A.in1 (call (.ref f) [.ref x, .ref y]) (fun v s' => ∃ b, v = .bool b ∧ Q (.bool (!b)) s') E s) : wpAny (model prog w) A (richCompare .NotEq (.ref x) (.ref y)) Q E s := by
  obtain ⟨hp, gg, dd, tt, os⟩ := s
  have X := X₀.keeps F.keep
  have body : wpAny (model prog w) A.in1 (Builtin.«object.__ne__» ⟨[.ref x, .ref y], []⟩) (fun fin s' => ∃ b, fin = .done (.ret (.bool (!b))) ∧ Q (.bool (!b)) s') E ⟨hp, gg, dd, tt, os⟩ := by
    unfold Builtin.«object.__ne__»
    repeat (first
      | with_reducible refine wpAny_cRoomFor hu ?_
      | (refine wpAny_bind (m := callSpecialIfBound? (.ref x) (Str.ofString "__eq__") [.ref y])
          (PySem.W.ifBound_K X I heq hf (wpAny_mono h (fun r s' hr => by
            obtain ⟨b, rfl, hq⟩ := hr
            repeat (first | exact ⟨b, rfl, hq⟩ | exact wpAny_pure ⟨b, rfl, hq⟩ | exact wpAny_truthy_bool ⟨b, rfl, hq⟩ | (refine wpAny_bind (m := truthy (.bool _)) (wpAny_truthy_bool ?_)) | wp_step)) fun _ _ e => e)))
      | wp_step)
  have one : wpAny (model prog w) A (tryCompare (.ref x) "__ne__" (.ref y)) (fun r s' => ∃ v, r = some v ∧ Q v s') E ⟨hp, gg, dd, tt, os⟩ := by
    simp only [tryCompare]
    refine wpAny_bind (ifBoundB X I hne PySem.F.cmp_object.ne.bind (wpAny_call (codeAny_call_builtin PySem.F.cmp_object.ne.plain PySem.F.cmpEntry_ne
      (PySem.W.check_slot PySem.F.cmpKind_ne PySem.F.cmpSplit_ne (I.type.andThen (PySem.W.looks_subIn X ho)) (PySem.F.cmpArgs_ne _ _) (wpAny_mono body (fun fin s' hv => ?_) fun _ _ e => e)))))
    obtain ⟨b, rfl, hq⟩ := hv
    exact wpAny_pure ⟨_, rfl, hq⟩
  unfold richCompare
  simp only [oneThing_ref]
  refine wpAny_holding (wpAny_bind (wpAny_cRoomFor (Nat.lt_of_succ_lt hu) ?_))
  rw [cmpInfo_NotEq]
  dsimp only
  refine wpAny_bind (I.type.here (wpAny_bind (hy.here ?_)))
  rw [show (Value.ref C != Value.ref C) = false from by simp]
  simp only [Bool.false_eq_true, if_false]
  refine wpAny_bind (wpAny_pure ?_)
  simp only [Bool.false_eq_true, if_false]
  refine wpAny_bind (wpAny_mono one (fun r s' z => ?_) fun _ _ e => e)
  obtain ⟨v, rfl, hq⟩ := z
  exact wpAny_pure hq
end
/-! ### == and != of books -/
structure ClsE (K : PySem.W.Frag) (C : Addr) : Prop where
  ha : PySem.W.findIn K (.ref C) "__class__" = some (some (.builtin "object.__class__"))
  hn : PySem.W.specialIn K (.builtin "object.__class__") "__get__" = some (some (.builtin "getset_descriptor.__get__"))
  htk : PySem.W.takesIn K (.builtin "object.__class__") = some true
  hm : PySem.W.mroIn K C (.type "object") = some true
  ne : PySem.W.findIn K (.ref C) "__ne__" = some (some (.builtin "object.__ne__"))
def spEqB (K : PySem.W.Frag) (C : Addr) : Sp := fun vs H Q _ => ∃ a b M N, vs = [.ref a, .ref b] ∧ BookAt K C H a M ∧ BookAt K C H b N ∧ KeyOk M ∧ KeyOk N ∧ ∀ H', Same H H' → Q (.bl (PyData.eqv (keyD M) (keyD N))) H'
section
variable {P : Program} {w : World} {K : PySem.W.Frag} {mg : Str → Option Value} {base : Heap}
abbrev sEqB : Stmt := inBook 18
theorem scEqB : FnScope ["self", "other"] ["self", "other"] (defScope sEqB) := ⟨rfl, rfl, rfl, by decide +kernel, rfl, by decide +kernel, by decide +kernel⟩
theorem ok_eqB {f fk C : Addr} {fd fdk : FuncData} (F : Fun K "__eq__" "Book.__eq__" sEqB f fd) (T : ClsF K C) (TE : ClsE K C) (B : Blt mg) (gC : mg "Book" = some (.ref C)) (KY : HasM P w K mg base C 1 "key" ["self"] (spKey K C) fk fdk) :
    FnOk P w K mg base CX0 2 f fd ["self", "other"] (spEqB K C) := by
  refine F.ok scEqB (fun vs H Q E h => ?_) (fun cdv A outer s H vs Q E hr h => ?_)
  · obtain ⟨_, _, _, _, rfl, _⟩ := h
    rfl
  · obtain ⟨a, b, M, N, rfl, ha, hb, oM, oN, q⟩ := h
    refine ⟨_, pss_one (ps_ret (pe_and (pe_callB call_isi (by rfl) B.isi (by decide +kernel) (pa_cons (pv 1) (pa_cons (pe_glob (v := .ref C) (by rfl) gC rfl) pa_nil)))
      (pe_one (pe_cmpR (op_eqD hr.units) (pe_meth0 (pv 0) T.cl KY.m KY.ok hr KY.b .nil pass0) (pe_meth0 (pv 1) T.cl KY.m KY.ok hr KY.b .nil pass0) (nomark _))))), ?_⟩
    obtain ⟨dx, tn, on, wg, ws, wd, e, _⟩ := hb.ex
    obtain ⟨dx2, tn2, on2, wg2, ws2, wd2, e2, _⟩ := ha.ex
    have kt : PySem.W.kitOne K (.ref C) (.ref C) = some true := by
      unfold PySem.W.kitOne
      rw [if_pos (by simp)]
    refine ⟨.ref b, rfl, .ref b, .ref C, .ref C, .ref C, true, rfl, .own C, .base (.ins e T.cl TE.ha TE.hn TE.htk TE.hm), kt, _, rfl, ?_⟩
    refine iteT ⟨.ref a, rfl, a, dx2, _, rfl, e2, bf_no (NoF.mk' (by decide +kernel)), a, M, rfl, ha, fun v1 H1 s1 d1 => ?_⟩
    refine ⟨.ref b, rfl, b, dx, _, rfl, s1 _ _ e, bf_no (NoF.mk' (by decide +kernel)), b, N, rfl, book_same hb s1, fun v2 H2 s2 d2 => ?_⟩
    exact ⟨keyD M, keyD N, Dt.dp _ (tup_key M) (Dt.same s2 _ d1), Dt.dp _ (tup_key N) d2, oM, oN, q _ (s1.trans s2)⟩
end
def rEqB (K : PySem.W.Frag) (C : Addr) (n : Bool) : R2 := fun x y H Q => ∃ a b M N, x = .ref a ∧ y = .ref b ∧ BookAt K C H a M ∧ BookAt K C H b N ∧ KeyOk M ∧ KeyOk N ∧ ∀ H', Same H H' → Q (.bl (if n = true then !PyData.eqv (keyD M) (keyD N) else PyData.eqv (keyD M) (keyD N))) H'
section
variable {X : Cx} {C f : Addr} {fd : FuncData}
theorem op_neB {K : PySem.W.Frag} (eK : X.K = K) (G : FnOk X.prog X.w X.K X.mg X.base CX0 2 f fd ["self", "other"] (spEqB X.K C)) (bd : Binds X.K fd ["self", "other"] []) (hm : Meth X.K C "__eq__" f) (TE : ClsE X.K C) (hr : Room 3 X.A) : OpR X (compareOp .NotEq) (rEqB K C true) := by
  subst eK
  intro pins s σ H x y v u Q I rx ry h
  obtain ⟨a, b, M, N, rfl, rfl, ha, hb, oM, oN, q⟩ := h
  cases rx
  cases ry
  obtain ⟨dx, tn, on, wg, ws, wd, e, _⟩ := ha.ex
  obtain ⟨dx2, tn2, on2, wg2, ws2, wd2, e2, _⟩ := hb.ex
  obtain ⟨m, Fm⟩ := I.fr
  obtain ⟨mA, O, _⟩ := ins_get I.hok e
  obtain ⟨od, J, _⟩ := O.look
  obtain ⟨mB, O2, _⟩ := ins_get I.hok e2
  obtain ⟨od2, J2, _⟩ := O2.look
  show wpAny (model X.prog X.w) X.A (richCompare .NotEq (.ref a) (.ref b)) (EP X pins σ Q) X.xe s
  refine ne_own (hu_of hr) Fm I.ok.mod.kin J J2.type TE.ne hm.at_ hm.fn TE.hm ?_
  have e0 := I.env0
  refine wpAny_call (codeAny_mono (G.run X.A.in1 X.stack s H ⟨[.ref a, .ref b], []⟩ [.ref a, .ref b] [.ref a, .ref b] (fun v H' => v = .bl (PyData.eqv (keyD M) (keyD N)) ∧ Q (.bl (!PyData.eqv (keyD M) (keyD N))) H') E0 hr.in1 e0.in1 (bd s [.ref a, .ref b] I.kIn rfl) (.cons rfl (.cons rfl .nil)) ⟨a, b, M, N, rfl, ha, hb, oM, oN, fun H' s' => ⟨rfl, q H' s'⟩⟩) fun r s' hq => ?_)
  match r, hq with
  | .error e, hq => exact hq.elim
  | .ok .next, hq => exact hq.elim
  | .ok .brk, hq => exact hq.elim
  | .ok .cont, hq => exact hq.elim
  | .ok (.ret u), hq =>
    obtain ⟨v, H', I', rv, ev, q'⟩ := I.after hq
    subst ev
    cases rv
    exact ⟨_, rfl, ⟨.bl _, H', I', rfl, q'⟩⟩
end
end Rc

namespace Rc
open PySem PySem.Spec PyProof.Rows L2 RZ
/-! ### the most that can be paid, cleared -/
def mostP (M : Bk) (j : Nat) (z : Str) : Int := match (duesM M).getD j none with
  | none => 0
  | some n => if cashM M j z < n.2 then cashM M j z else n.2
def amtAt (zs : List Str) (os : List (Option (Str × Int))) (y : Str) : Int := match os.getD (zs.idxOf y) none with
  | none => 0
  | some n => n.2
def leastI : List Int → Int
  | [] => 0
  | x :: r => r.foldl (fun a b => if b < a then b else a) x
theorem least_fold : ∀ (r : List Int) (x : Int), (r.foldl (fun a b => if b < a then b else a) x = x ∨ r.foldl (fun a b => if b < a then b else a) x ∈ r) ∧ r.foldl (fun a b => if b < a then b else a) x ≤ x ∧ ∀ y ∈ r, r.foldl (fun a b => if b < a then b else a) x ≤ y
  | [], x => ⟨.inl rfl, Int.le_refl _, fun y hy => by cases hy⟩
  | b :: r, x => by
    obtain ⟨h1, h2, h3⟩ := least_fold r (if b < x then b else x)
    rw [List.foldl_cons]
    refine ⟨?_, ?_, fun y hy => ?_⟩
    · rcases h1 with h1 | h1
      · rw [h1]
        by_cases c : b < x
        · rw [if_pos c]
          exact .inr List.mem_cons_self
        · rw [if_neg c]
          exact .inl rfl
      · exact .inr (List.mem_cons_of_mem _ h1)
    · refine Int.le_trans h2 ?_
      split <;> omega
    · rcases List.mem_cons.mp hy with hy | hy
      · subst hy
        refine Int.le_trans h2 ?_
        split <;> omega
      · exact h3 y hy
theorem least_mem {ns : List Int} (h : ns ≠ []) : leastI ns ∈ ns ∧ ∀ y ∈ ns, leastI ns ≤ y := by
  cases ns with
  | nil => exact absurd rfl h
  | cons x r =>
    obtain ⟨h1, h2, h3⟩ := least_fold r x
    refine ⟨?_, fun y hy => ?_⟩
    · rcases h1 with h1 | h1
      · exact List.mem_cons.mpr (.inl h1)
      · exact List.mem_cons_of_mem _ h1
    · rcases List.mem_cons.mp hy with hy | hy
      · subst hy
        exact h2
      · exact h3 y hy
theorem least_uniq {ns : List Int} {m : Int} (h1 : m ∈ ns) (h2 : ∀ y ∈ ns, m ≤ y) : m = leastI ns := by
  obtain ⟨a, b⟩ := least_mem (ns := ns) (fun e => by rw [e] at h1; cases h1)
  have := h2 _ a
  have := b _ h1
  omega
def mostC (zs : List Str) (os : List (Option (Str × Int))) (z : Str) : Int := match ringM zs (nxOf zs os) z with
  | none => 0
  | some r => leastI (r.map (amtAt zs os))
theorem mostC_none {zs : List Str} {os : List (Option (Str × Int))} {z : Str} (h : ringM zs (nxOf zs os) z = none) : mostC zs os z = 0 := by
  unfold mostC
  rw [h]
theorem mostC_some {zs : List Str} {os : List (Option (Str × Int))} {z : Str} {r : List Str} (h : ringM zs (nxOf zs os) z = some r) : mostC zs os z = leastI (r.map (amtAt zs os)) := by
  unfold mostC
  rw [h]
theorem mostP_none {M : Bk} {j : Nat} {z : Str} (h : (duesM M).getD j none = none) : mostP M j z = 0 := by
  unfold mostP
  rw [h]
theorem mostP_some {M : Bk} {j : Nat} {z : Str} {n : Str × Int} (h : (duesM M).getD j none = some n) : mostP M j z = if cashM M j z < n.2 then cashM M j z else n.2 := by
  unfold mostP
  rw [h]
end Rc

namespace Rc
open PySem PySem.Spec PyProof.Rows L2 RZ
/-- a written table of two defs -/
structure TabAt (K : PySem.W.Frag) (w : World) (mg : Str → Option Value) (nm : Str) (fp fc : Addr) : Prop where
  ex : ∃ d es n, mg nm = some (.ref d) ∧ KDict K w d es n ∧ PySem.W.nsIn K d "pay" = some (some (.ref fp)) ∧ PySem.W.nsIn K d "clear" = some (some (.ref fc))
section
variable {P : Program} {w : World} {K : PySem.W.Frag} {mg : Str → Option Value} {base : Heap}
/-! ### most_to_pay -/
abbrev sMtP : Stmt := topS 36
theorem scMtP : FnScope ["book", "who", "due"] ["book", "who"] (defScope sMtP) := ⟨rfl, rfl, rfl, by decide +kernel, rfl, by decide +kernel, by decide +kernel⟩
theorem ok_mtP {f f1 f2 C : Addr} {fd fd1 fd2 : FuncData} (F : Fun K "most_to_pay" "most_to_pay" sMtP f fd) (T : ClsF K C) (B2 : Blt2 mg) (DU : Has P w K mg base 6 "due_of" ["book", "who"] (spDue K C) f1 fd1) (CS : HasM P w K mg base C 5 "cash" ["self", "who"] (spCalc K C cashM) f2 fd2) :
    FnOk P w K mg base CX0 7 f fd ["book", "who"] (spCalc K C mostP) := by
  refine F.ok scMtP (fun vs H Q E h => ?_) (fun cdv A outer s H vs Q E hr h => ?_)
  · obtain ⟨_, _, _, _, rfl, _⟩ := h
    rfl
  · obtain ⟨b, M, z, j, rfl, hb, ok, ej, q⟩ := h
    refine ⟨_, pss_cons (ps_set (i := 2) scMtP.nd rfl (.inl rfl) (pe_call DU.ok hr (by rfl) DU.g DU.kp DU.b .nil pass0 (pa_cons (pv 0) (pa_cons (pv 1) pa_nil))))
      (pss_one (ps_ret (pe_ifExp (pt_cmpR op_isN (pv 2) pe_non (nomark _)) pe_int (pe_callB (call_min2 rfl) (by rfl) B2.min (by decide +kernel) (pa_cons (pe_ix ix_tup (pv 2) pe_int (fun _ _ => rfl)) (pa_cons (pe_meth (pv 0) T.cl CS.m CS.ok (hr.mono (by decide)) CS.b .nil pass0 (pa_cons (pv 1) pa_nil)) pa_nil)))))), ?_⟩
    refine ⟨.ref b, rfl, .str z, rfl, b, M, z, j, rfl, hb, ok, ej, fun v H1 s1 dv => ?_⟩
    have em : mostP M j z = match (duesM M).getD j none with | none => 0 | some n => if cashM M j z < n.2 then cashM M j z else n.2 := rfl
    rcases due_inv dv with ⟨eo, rfl⟩ | ⟨n, a, eo, rfl, qa⟩
    · rw [eo] at em
      refine ⟨.non, rfl, rfl, _, rfl, ?_⟩
      rw [decide_eq_true rfl]
      refine iteT ?_
      have qq := q H1 s1
      rw [em] at qq
      exact qq
    · rw [eo] at em
      refine ⟨.ref a, rfl, rfl, _, rfl, ?_⟩
      rw [decide_eq_false (fun c => by cases c)]
      obtain ⟨dx, tn, on, wg, ws, wd, e, _⟩ := (book_same hb s1).ex
      refine iteF ⟨.ref a, rfl, a, _, 1, .int n.2, rfl, rfl, qa, rfl, .ref b, rfl, b, dx, _, rfl, e, bf_no (NoF.mk' (by decide +kernel)), .str z, rfl, b, M, z, j, rfl, book_same hb s1, ok, ej, fun H2 s2 => ⟨_, _, rfl, ?_⟩⟩
      have qq := q H2 (s1.trans s2)
      rw [em] at qq
      exact qq
/-! ### pay_on -/
abbrev sPayO : Stmt := topS 38
theorem scPayO : FnScope ["book", "who", "amount", "most"] ["book", "who", "amount"] (defScope sPayO) := ⟨rfl, rfl, rfl, by decide +kernel, rfl, by decide +kernel, by decide +kernel⟩
def spPayO (K : PySem.W.Frag) (C : Addr) : Sp := fun vs H Q _ => ∃ (b : Addr) (M : Bk) (z : Str) (j : Nat) (m : Int), vs = [.ref b, .str z, .int m] ∧ BookAt K C H b M ∧ M.Ok ∧ M.names[j]? = some z ∧ 1 ≤ m ∧ m ≤ mostP M j z ∧ FallOk M [(z, m)] ∧
  ∀ b' H', Same H H' → H b' = none → BookAt K C H' b' (fallM M [(z, m)]) → Q (.ref b') H'
theorem ok_payO {f f1 f2 f3 C : Addr} {fd fd1 fd2 fd3 : FuncData} (F : Fun K "pay_on" "pay_on" sPayO f fd) (T : ClsF K C) (MP : Has P w K mg base 7 "most_to_pay" ["book", "who"] (spCalc K C mostP) f1 fd1) (CA : Has P w K mg base 3 "check_amount" ["amount"] (spCheckA K) f2 fd2)
    (LF : HasM P w K mg base C 7 "let_fall" ["self", "more"] (spLetF K C) f3 fd3) : FnOk P w K mg base CX0 8 f fd ["book", "who", "amount"] (spPayO K C) := by
  refine F.ok scPayO (fun vs H Q E h => ?_) (fun cdv A outer s H vs Q E hr h => ?_)
  · obtain ⟨_, _, _, _, _, rfl, _⟩ := h
    rfl
  · obtain ⟨b, M, z, j, m, rfl, hb, ok, ej, m1, mm, fo, q⟩ := h
    refine ⟨_, pss_cons (ps_set (i := 3) scPayO.nd rfl (.inl rfl) (pe_call MP.ok hr (by rfl) MP.g MP.kp MP.b .nil pass0 (pa_cons (pv 0) (pa_cons (pv 1) pa_nil))))
      (pss_cons (ps_expr (pe_call CA.ok (hr.mono (by decide)) (by rfl) CA.g CA.kp CA.b .nil pass0 (pa_cons (pv 2) pa_nil)))
      (pss_cons (ps_if (pt_cmpR op_gt (pv 2) (pv 3) (nomark _)) pss_never pss_nil)
      (pss_one (ps_ret (pe_meth (pv 0) T.cl LF.m LF.ok hr LF.b .nil pass0 (pa_cons (pe_disp (pps_cons (pv 1) (pv 2) pps_nil) (by rfl) (by rfl) (fun z => by cases z) (by show 1 ≤ 15; decide)) pa_nil)))))), ?_⟩
    refine ⟨.ref b, rfl, .str z, rfl, b, M, z, j, rfl, hb, ok, ej, fun H1 s1 => ⟨.int m, rfl, m, rfl, m1, fun H2 s2 => ⟨.int m, rfl, _, rfl, _, _, rfl, rfl, _, rfl, ?_⟩⟩⟩
    rw [show decide (mostP M j z < m) = false from decide_eq_false (by omega)]
    have s12 := s1.trans s2
    have hb2 := book_same hb s12
    obtain ⟨dx, tn, on, wg, ws, wd, e, _⟩ := hb2.ex
    refine iteF ⟨.ref b, rfl, b, dx, _, rfl, e, bf_no (NoF.mk' (by decide +kernel)), fun pd npd => ⟨.str z, rfl, .int m, rfl, upd_same, [(.inr z, .int m)], rfl, by show 1 ≤ 15; decide, ?_⟩⟩
    rw [upd_upd]
    have s3 := same_upd (o := .dK (mergeK [] [((Sum.inr z : Key), V.int m)])) npd
    have hpd : upd H2 pd (.dK (mergeK [] [((Sum.inr z : Key), V.int m)])) pd = some (.dK (moreK [(z, m)])) := upd_same
    generalize upd H2 pd (.dK (mergeK [] [((Sum.inr z : Key), V.int m)])) = H3 at s3 hpd
    have s13 := s12.trans s3
    exact ⟨b, pd, M, [(z, m)], rfl, book_same hb s13, ok, hpd, fo, fun b' H4 s4 nb hb4 => q b' H4 (s13.trans s4) (s13.free nb) hb4⟩
/-! ### is_step -/
abbrev sIsS : Stmt := topS 41
theorem scIsS : FnScope ["thing"] ["thing"] (defScope sIsS) := ⟨rfl, rfl, rfl, by decide +kernel, rfl, by decide +kernel, by decide +kernel⟩
def spIsS (K : PySem.W.Frag) : Sp := fun vs H Q _ => ∃ (t : Addr) (wd : Str) (x y : V), vs = [.ref t] ∧ H t = some (.tup [.str wd, x, y]) ∧ (wd = "pay" ∨ wd = "clear") ∧ ∀ H', Same H H' → Q (.bl true) H'
theorem ok_isS {f fp fc : Addr} {fd : FuncData} (F : Fun K "is_step" "is_step" sIsS f fd) (B : Blt mg) (B3 : Blt3 mg) (TB : TabAt K w mg "ACTIONS" fp fc) : FnOk P w K mg base CX0 1 f fd ["thing"] (spIsS K) := by
  obtain ⟨d, es, n, gd, KD, np, nc⟩ := TB.ex
  refine F.ok scIsS (fun vs H Q E h => ?_) (fun cdv A outer s H vs Q E hr h => ?_)
  · obtain ⟨_, _, _, _, rfl, _⟩ := h
    rfl
  · obtain ⟨t, wd, x, y, rfl, ht, hw, q⟩ := h
    refine ⟨_, pss_cons (ps_if (PW.pt (pw_or (pt_not (pt_val (pe_callB call_isi (by rfl) B.isi (by decide +kernel) (pa_cons (pv 0) (pa_cons (pe_bltn (v := .ty "tuple") (by rfl) B3.tuple (by decide +kernel) rfl) pa_nil)))))
        (pw_or1 (pt_cmpR op_ne (pe_callB call_len_seq (by rfl) B.len PySem.boot_len (pa_cons (pv 0) pa_nil)) pe_int (nomark _))))) (pss_one (ps_ret pe_bl)) pss_nil)
      (pss_one (ps_ret (pe_and (pe_callB call_isi (by rfl) B.isi (by decide +kernel) (pa_cons (pe_ix ix_tup (pv 0) pe_int (fun _ _ => rfl)) (pa_cons (pe_bltn (v := .ty "str") (by rfl) B.str (by decide +kernel) rfl) pa_nil)))
        (pe_one (pe_cmpR (op_in_kd KD) (pe_ix ix_tup (pv 0) pe_int (fun _ _ => rfl)) (pe_glob (v := .ref d) (by rfl) gd rfl) (by rfl)))))), ?_⟩
    have sq : SqT K H t [.str wd, x, y] := .inl (.inl ht)
    refine ⟨.ref t, rfl, _, .ty "tuple", _, _, true, rfl, .ty "tuple", .base (.tup ht), kit_ty (by decide +kernel), _, rfl, iteF ?_⟩
    refine ⟨.ref t, rfl, t, _, rfl, .inr sq, rfl, _, rfl, ?_⟩
    rw [decide_eq_true (show V.int (([V.str wd, x, y].length : Nat) : Int) = V.int 3 from rfl)]
    refine iteF ⟨.ref t, rfl, t, _, 0, .str wd, rfl, rfl, sq, rfl, .str wd, .ty "str", _, _, true, rfl, .ty "str", .base (.str wd), kit_ty (by decide +kernel), _, rfl, ?_⟩
    rcases hw with rfl | rfl
    · exact iteT ⟨.ref t, rfl, t, _, 0, .str "pay", rfl, rfl, sq, rfl, "pay", _, rfl, rfl, np, q H (Same.refl _)⟩
    · exact iteT ⟨.ref t, rfl, t, _, 0, .str "clear", rfl, rfl, sq, rfl, "clear", _, rfl, rfl, nc, q H (Same.refl _)⟩
/-! ### stepped, a pay -/
abbrev sStp : Stmt := topS 42
theorem scStp : FnScope ["book", "step", "word", "who", "amount", "action"] ["book", "step"] (defScope sStp) := ⟨rfl, rfl, rfl, by decide +kernel, rfl, by decide +kernel, by decide +kernel⟩
def spStP (K : PySem.W.Frag) (C : Addr) : Sp := fun vs H Q _ => ∃ (b t : Addr) (M : Bk) (z : Str) (j : Nat) (m : Int), vs = [.ref b, .ref t] ∧ H t = some (.tup [.str "pay", .str z, .int m]) ∧ BookAt K C H b M ∧ M.Ok ∧ M.names[j]? = some z ∧ 1 ≤ m ∧ m ≤ mostP M j z ∧ FallOk M [(z, m)] ∧
  ∀ b' H', Same H H' → H b' = none → BookAt K C H' b' (fallM M [(z, m)]) → Q (.ref b') H'
theorem ok_stP {f f1 fp fc C : Addr} {fd fd1 fdp : FuncData} (F : Fun K "stepped" "stepped" sStp f fd) (TB : TabAt K w mg "ACTIONS" fp fc) (IS : Has P w K mg base 1 "is_step" ["thing"] (spIsS K) f1 fd1) (PO : Has P w K mg base 8 "pay_on" ["book", "who", "amount"] (spPayO K C) fp fdp) :
    FnOk P w K mg base CX0 9 f fd ["book", "step"] (spStP K C) := by
  obtain ⟨d, es, n, gd, KD, np, nc⟩ := TB.ex
  refine F.ok scStp (fun vs H Q E h => ?_) (fun cdv A outer s H vs Q E hr h => ?_)
  · obtain ⟨_, _, _, _, _, _, rfl, _⟩ := h
    rfl
  · obtain ⟨b, t, M, z, j, m, rfl, ht, hb, ok, ej, m1, mm, fo, q⟩ := h
    refine ⟨_, pss_cons (ps_if (pt_not (pt_val (pe_call IS.ok (hr.mono (by decide)) (by rfl) IS.g IS.kp IS.b .nil pass0 (pa_cons (pv 1) pa_nil)))) pss_never pss_nil)
      (pss_cons (ps_asg (pv 1) (pg_tup rfl (pgs_cons (pg_name (i := 2) scStp.nd rfl (.inl rfl)) (pgs_cons (pg_name (i := 3) scStp.nd rfl (.inl rfl)) (pgs_cons (pg_name (i := 4) scStp.nd rfl (.inl rfl)) pgs_nil)))))
      (pss_cons (ps_set (i := 5) scStp.nd rfl (.inl rfl) (pe_ix ix_kdict (pe_glob (v := .ref d) (by rfl) gd rfl) (pv 2) (fun _ _ => rfl)))
      (pss_one (ps_ret (pe_callL (i := 5) (f := fp) PO.ok hr rfl (.inl rfl) PO.kp PO.b .nil pass0 (pa_cons (pv 0) (pa_cons (pv 3) (pa_cons (pv 4) pa_nil)))))))), ?_⟩
    refine ⟨.ref t, rfl, t, "pay", _, _, rfl, ht, .inl rfl, fun H1 s1 => ⟨_, rfl, iteF ?_⟩⟩
    refine ⟨.ref t, rfl, t, _, rfl, .inl (.inl (s1 _ _ ht)), rfl, _, _, rfl, _, _, rfl, _, _, rfl, rfl, ?_⟩
    refine ⟨.str "pay", rfl, d, _, .ref fp, rfl, rfl, ⟨es, n, _, KD.at_, KD.lit, np, rfl⟩, rfl, .ref b, rfl, .str z, rfl, .int m, rfl, b, M, z, j, m, rfl, book_same hb s1, ok, ej, m1, mm, fo, fun b' H2 s2 nb hb2 => ?_⟩
    exact q b' H2 (s1.trans s2) (s1.free nb) hb2
end
end Rc

namespace Rc
open PySem PySem.Spec PyProof.Rows L2 RZ
/-! ### bounds, for what is shown -/
structure Gb (D : Md) : Prop where
  gv : ∀ g ∈ D.given, 0 ≤ g ∧ g ≤ 100 * 10 ^ 58
  fw : ∀ (j : Nat) (l : List (Str × Int)) (f : Int), D.notes[j]? = some l → D.fallen[j]? = some f → f ≤ wholeN l
theorem wholeN_le {zs : List Str} : ∀ {l : List (Str × Int)}, (∀ n ∈ l, NoteOk zs n) → wholeN l ≤ (l.length : Int) * 10 ^ 58
  | [], _ => by simp [wholeN]
  | n :: r, h => by
    have ih := wholeN_le fun m hm => h m (List.mem_cons_of_mem _ hm)
    have h1 : n.2 ≤ 10 ^ 58 := (h n List.mem_cons_self).2.2
    rw [wholeN_cons, List.length_cons]
    have e : ((r.length + 1 : Nat) : Int) * 10 ^ 58 = (r.length : Int) * 10 ^ 58 + 10 ^ 58 := by
      rw [Int.natCast_add, Int.add_mul]
      rfl
    rw [e]
    omega
theorem sumTo_le (z : Str) : ∀ {l : List (Str × Int)} {f : Int}, (∀ n ∈ l, 1 ≤ n.2) → 0 ≤ f → 0 ≤ sumTo z (goneN l f) ∧ sumTo z (goneN l f) ≤ wholeN l
  | [], f, _, _ => ⟨Int.le_refl _, Int.le_refl _⟩
  | (t, a) :: r, f, h, f0 => by
    have h1 : 1 ≤ a := h _ List.mem_cons_self
    have hp : 0 ≤ partOf a f ∧ partOf a f ≤ f ∧ partOf a f ≤ a := by
      unfold partOf
      split <;> omega
    obtain ⟨i1, i2⟩ := sumTo_le z (l := r) (f := f - partOf a f) (fun m hm => h m (List.mem_cons_of_mem _ hm)) (by omega)
    rw [goneN_cons, sumTo_app, sumTo_one z t _ hp.1, wholeN_cons]
    have : 0 ≤ (if t = z then partOf a f else 0) ∧ (if t = z then partOf a f else 0) ≤ a := by
      split <;> omega
    exact ⟨by omega, by show _ ≤ a + wholeN r; omega⟩
theorem sums_le (z : Str) : ∀ {L : List (List (Str × Int) × Int)}, (∀ p ∈ L, (∀ n ∈ p.1, 1 ≤ n.2) ∧ 0 ≤ p.2) → 0 ≤ (L.map fun p => sumTo z (goneN p.1 p.2)).sum ∧ (L.map fun p => sumTo z (goneN p.1 p.2)).sum ≤ (L.map fun p => wholeN p.1).sum
  | [], _ => ⟨Int.le_refl _, Int.le_refl _⟩
  | p :: r, h => by
    obtain ⟨h1, h2⟩ := h p List.mem_cons_self
    obtain ⟨a, b⟩ := sumTo_le z h1 h2
    obtain ⟨i1, i2⟩ := sums_le z (L := r) fun q hq => h q (List.mem_cons_of_mem _ hq)
    simp only [List.map_cons, List.sum_cons]
    omega
theorem wholes_le {zs : List Str} : ∀ {L : List (List (Str × Int) × Int)}, (∀ p ∈ L, ∀ n ∈ p.1, NoteOk zs n) → (L.map fun p => wholeN p.1).sum ≤ (((L.map fun p => p.1.length).sum : Nat) : Int) * 10 ^ 58
  | [], _ => by simp
  | p :: r, h => by
    have h1 := wholeN_le (h p List.mem_cons_self)
    have ih := wholes_le (L := r) fun q hq => h q (List.mem_cons_of_mem _ hq)
    simp only [List.map_cons, List.sum_cons]
    rw [Int.natCast_add, Int.add_mul]
    omega
theorem Gs.fallTo {zs : List Str} {D : Md} (g : Gs zs D) (z : Str) : fallTo (bkOf zs D) z ≤ 60 * 10 ^ 58 := by
  have h1 := (sums_le z (L := D.notes.zip D.fallen) fun p hp => by
    obtain ⟨a, b⟩ := List.of_mem_zip hp
    exact ⟨fun n hn => (g.nt _ a n hn).2.1, g.fl _ b⟩).2
  have h2 := wholes_le (zs := zs) (L := D.notes.zip D.fallen) fun p hp => g.nt _ (List.of_mem_zip hp).1
  have h3 : ((D.notes.zip D.fallen).map fun p => p.1.length) = D.notes.map List.length := by
    rw [show (fun p : List (Str × Int) × Int => p.1.length) = List.length ∘ Prod.fst from rfl, ← List.map_map, List.map_fst_zip (by rw [g.ln, g.lf]; exact Nat.le_refl _)]
  rw [h3] at h2
  have h4 := g.my
  have h5 : ((D.notes.map List.length).sum : Int) * 10 ^ 58 ≤ 60 * 10 ^ 58 := Int.mul_le_mul_of_nonneg_right (by omega) (by decide)
  show ((D.notes.zip D.fallen).map fun p => sumTo z (goneN p.1 p.2)).sum ≤ _
  omega
theorem big_of {i : Int} (h0 : 0 ≤ i) (h1 : i ≤ 1000 * 10 ^ 58) : BigOk i := by
  have e : (1000 : Int) * 10 ^ 58 < 2 ^ 300 := by decide
  have e2 : ((2 ^ 300 : Nat) : Int) = 2 ^ 300 := by decide
  unfold BigOk
  omega
theorem Gb.bigs {zs : List Str} {D : Md} (b : Gb D) (g : Gs zs D) {j : Nat} {z : Str} {gv f : Int} {l : List (Str × Int)} (ej : zs[j]? = some z) (eg : D.given[j]? = some gv) (ef : D.fallen[j]? = some f) (el : D.notes[j]? = some l) :
    BigOk gv ∧ BigOk f ∧ BigOk (cashM (bkOf zs D) j z) := by
  obtain ⟨g0, g1⟩ := b.gv gv (List.mem_of_getElem? eg)
  have f0 := g.fl f (List.mem_of_getElem? ef)
  have f1 := b.fw j l f el ef
  have w1 := wholeN_le (g.nt l (List.mem_of_getElem? el))
  have ll := g.rows l (List.mem_of_getElem? el)
  have w2 : (l.length : Int) * 10 ^ 58 ≤ 60 * 10 ^ 58 := Int.mul_le_mul_of_nonneg_right (by omega) (by decide)
  have c0 := g.cs j z ej
  have c1 := g.fallTo z
  have ec : cashM (bkOf zs D) j z = gv + fallTo (bkOf zs D) z - f := by
    unfold cashM
    show D.given.getD j 0 + _ - D.fallen.getD j 0 = _
    rw [getD_of eg, getD_of ef]
  refine ⟨big_of g0 (by omega), big_of f0 (by omega), big_of c0 (by rw [ec]; omega)⟩
theorem Gd.gb {zs : List Str} {D : Md} {k : Nat} (h : Gd zs D k) : Gb D := by
  refine ⟨fun g hg => ?_, fun j l f el ef => ?_⟩
  · obtain ⟨a, b⟩ := h.gv g hg
    have k1 := h.k1
    have : (k : Int) * 10 ^ 58 ≤ 60 * 10 ^ 58 := Int.mul_le_mul_of_nonneg_right (by omega) (by decide)
    exact ⟨a, by omega⟩
  · have hf := List.mem_of_getElem? ef
    rw [h.zf] at hf
    rw [List.eq_of_mem_replicate hf]
    exact wholeN_nonneg fun n hn => (h.nt l (List.mem_of_getElem? el) n hn).2.1
theorem Gb.fell {D : Md} {j : Nat} {l : List (Str × Int)} {x : Int} (b : Gb D) (el : D.notes[j]? = some l) (hx : x ≤ wholeN l) : Gb (fellD D j x) := by
  refine ⟨b.gv, fun i l' f' el' ef' => ?_⟩
  have ef2 : (D.fallen.set j x)[i]? = some f' := ef'
  by_cases h : i = j
  · subst h
    have e : l' = l := Option.some.inj (Eq.trans (Eq.symm (show D.notes[i]? = some l' from el')) el)
    obtain ⟨hl, e2⟩ := List.getElem?_eq_some_iff.mp ef2
    rw [List.getElem_set_self] at e2
    rw [e, ← e2]
    exact hx
  · rw [List.getElem?_set_ne (fun c => h c.symm)] at ef2
    exact b.fw i l' f' el' ef2
theorem Gs.key {zs : List Str} {D : Md} (g : Gs zs D) : KeyOk (bkOf zs D) := by
  have ln : ∀ n : Str × Int, (noteD n).depth = 1 := fun n => by simp [noteD, PyData.depth, PyData.depthAll]
  have ls : ∀ l, (stackD l).depth ≤ 2 := fun l => by
    unfold stackD notesD
    simp only [PyData.depth]
    have := dep_map (f := noteD) (n := 1) (l := l) fun n _ => Nat.le_of_eq (ln n)
    omega
  have c1 : PyData.canLayAll0 (zs.map .str) = true := (nice_names g.nz.nm).cl
  have c2 : ∀ l : List Int, PyData.canLayAll0 (l.map .int) = true := fun l => lay_map fun x _ => by simp only [PyData.canLay0]
  have c3 : PyData.canLayAll0 (D.notes.map stackD) = true := lay_map fun l hl => by
    unfold stackD
    simp only [PyData.canLay0]
    exact (nice_notes g.nz.nm (g.nt l hl)).cl
  unfold KeyOk SeqAt.shaped
  have ec : (keyD (bkOf zs D)).canLay0 = true := by
    show (PyData.tuple [.tuple (zs.map .str), .tuple (D.given.map .int), .tuple (D.notes.map stackD), .tuple (D.fallen.map .int)]).canLay0 = true
    simp only [PyData.canLay0, PyData.canLayAll0, c1, c2, c3, Bool.and_self]
  have ed : (keyD (bkOf zs D)).depth ≤ 64 := by
    show (PyData.tuple [.tuple (zs.map .str), .tuple (D.given.map .int), .tuple (D.notes.map stackD), .tuple (D.fallen.map .int)]).depth ≤ 64
    simp only [PyData.depth, PyData.depthAll]
    have d1 := dep_map (f := PyData.str) (n := 0) (l := zs) fun _ _ => by simp only [PyData.depth]; omega
    have d2 := dep_map (f := PyData.int) (n := 0) (l := D.given) fun _ _ => by simp only [PyData.depth]; omega
    have d3 := dep_map (f := stackD) (n := 2) (l := D.notes) fun l _ => ls l
    have d4 := dep_map (f := PyData.int) (n := 0) (l := D.fallen) fun _ _ => by simp only [PyData.depth]; omega
    omega
  rw [ec, decide_eq_true ed]
  rfl
theorem key_eqv {M : Bk} (h : KeyOk M) : PyData.eqv (keyD M) (keyD M) = true := SeqAt.eqv_refl _ (SeqAt.canLay_of_shaped h)
theorem fold_eq (zs : List Str) : ∀ (ds : List Deed) (D : Md), ds.foldl stepM (bkOf zs D) = bkOf zs (ds.foldl (doneD zs) D)
  | [], _ => rfl
  | d :: r, D => by
    rw [List.foldl_cons, List.foldl_cons, step_eq, fold_eq zs r]
/-! ### rings hang together -/
def Chain (nx : Str → Option Str) (T : List Str) : Prop := ∀ (i : Nat) (x y : Str), T[i]? = some x → T[i + 1]? = some y → nx x = some y
theorem chain_snoc {nx : Str → Option Str} {ini : List Str} {l y : Str} (c : Chain nx (ini ++ [l])) (h : nx l = some y) : Chain nx (ini ++ [l] ++ [y]) := fun i a b h1 h2 => by
  have lb : i + 1 < (ini ++ [l] ++ [y]).length := (List.getElem?_eq_some_iff.mp h2).1
  rw [List.length_append] at lb
  have l1 : [y].length = 1 := rfl
  rw [List.getElem?_append_left (by omega)] at h1
  by_cases hi : i + 1 < (ini ++ [l]).length
  · rw [List.getElem?_append_left hi] at h2
    exact c i a b h1 h2
  · have ei : i = ini.length := by
      rw [List.length_append] at hi lb
      have l2 : [l].length = 1 := rfl
      omega
    subst ei
    rw [List.getElem?_append_right (by rw [List.length_append]; exact Nat.le_refl _)] at h2
    rw [List.getElem?_append_right (Nat.le_refl _)] at h1
    simp at h1 h2
    rw [← h1, ← h2]
    exact h
theorem trail_chain {nx : Str → Option Str} : ∀ (k : Nat) (ini : List Str) (l : Str) (d : Option Str), Chain nx (ini ++ [l]) → d = nx l → Chain nx (trailF nx k (ini ++ [l]) d)
  | 0, _, _, _, c, _ => c
  | k + 1, ini, l, none, c, _ => c
  | k + 1, ini, l, some y, c, e => by
    simp only [trailF]
    split
    · exact c
    · exact trail_chain k (ini ++ [l]) y (nx y) (chain_snoc c e.symm) rfl
theorem trailM_chain (zs : List Str) (nx : Str → Option Str) (z : Str) : Chain nx (trailM zs nx z) :=
  trail_chain zs.length [] z (nx z) (fun i x y _ h => by simp at h) rfl
/-- each person of a ring has a due note -/
theorem ring_due {zs : List Str} {nx : Str → Option Str} {z : Str} {r : List Str} (ld : Leads zs nx) (hz : z ∈ zs) (h : ringM zs nx z = some r) : ∀ y ∈ r, y ∈ zs ∧ ∃ x, nx y = some x := fun y hy => by
  have en := trail_ended ld hz
  have ch := trailM_chain zs nx z
  unfold ringM at h
  split at h
  · rename_i hl
    have e := Option.some.inj h
    subst e
    have hyT : y ∈ trailM zs nx z := by
      rcases List.mem_append.mp hy with hy | hy
      · exact List.mem_of_mem_drop hy
      · exact List.mem_of_mem_take hy
    refine ⟨en.sub y hyT, ?_⟩
    obtain ⟨i, hi, e⟩ := List.getElem_of_mem hyT
    by_cases hl' : i + 1 < (trailM zs nx z).length
    · exact ⟨_, ch i y _ (by rw [List.getElem?_eq_getElem hi, e]) (List.getElem?_eq_getElem hl')⟩
    · obtain ⟨ini, l, eT, _⟩ := en.last
      have el : y = l := by
        have h1 : (trailM zs nx z)[i]? = some y := by rw [List.getElem?_eq_getElem hi, e]
        rw [eT] at h1 hi hl'
        rw [List.length_append] at hi hl'
        have l1 : [l].length = 1 := rfl
        rw [List.getElem?_append_right (by omega)] at h1
        have : i - ini.length = 0 := by omega
        rw [this] at h1
        simpa using h1.symm
      rw [lastM_eq eT] at hl
      exact ⟨z, el ▸ hl⟩
  · cases h
end Rc

namespace Rc
open PySem PySem.Spec PyProof.Rows L2 RZ
section
variable {P : Program} {w : World} {K : PySem.W.Frag} {mg : Str → Option Value} {base : Heap}
abbrev sLDs : Stmt := topS 63
theorem scLDs : FnScope ["_law_pot_here", "_law_names_here", "_law_many", "_law_size", "_law_found", "_law_k"] ["_law_pot_here", "_law_names_here", "_law_many", "_law_size"] (defScope sLDs) := ⟨rfl, rfl, rfl, by decide +kernel, rfl, by decide +kernel, by decide +kernel⟩
def spLDs (K : PySem.W.Frag) : Sp := fun vs H Q _ => ∃ (p nl : Addr) (zs : List Str) (m : Nat) (sz : Int), vs = [.ref p, .ref nl, .int (m : Nat), .int sz] ∧ (sz = 0 ∨ sz = 1) ∧ Pot H p ∧ nl ≠ p ∧ H nl = some (.lst (List.map V.str zs)) ∧ 1 ≤ zs.length ∧ zs.length ≤ 1000 ∧ m ≤ 60 ∧
  ∀ r xs ds H', H r = none → r ≠ p → H' r = some (.lst xs) → DtAll K H' xs (deedsD ds) → ds.length = m → (∀ d ∈ ds, d.Ok zs) → Pot H' p → But p H H' → Q (.ref r) H'
theorem ok_lds {f fT fA fM : Addr} {fd fdT fdA fdM : FuncData} (F : Fun K "_law_deeds" "_law_deeds" sLDs f fd) (B2 : Blt2 mg) (T : HasTake P w K mg base fT fdT) (A : HasAmong P w K mg base fA fdA)
    (AM : Has P w K mg base 2 "_law_amount" ["_law_pot_here", "_law_size"] spLAm fM fdM) : FnOk P w K mg base CX0 3 f fd ["_law_pot_here", "_law_names_here", "_law_many", "_law_size"] (spLDs K) := by
  refine F.ok scLDs (fun vs H Q E h => ?_) (fun cdv Ar outer s H vs Q E hr h => ?_)
  · obtain ⟨_, _, _, _, _, rfl, _⟩ := h
    rfl
  · obtain ⟨p, nl, zs, m, sz, rfl, hsz, hp, np, hn, z0, z1, hm, q⟩ := h
    have hr1 := hr.mono (show 1 ≤ 2 by decide)
    refine ⟨_, pss_cons (ps_set (i := 4) scLDs.nd rfl (.inl rfl) (pe_lst pa_nil))
      (pss_cons (ps_for PassesOwn.never rfl (pi_range1 (by rfl) B2.range (pa_cons (pv 2) pa_nil)) (pg_name (i := 5) scLDs.nd rfl (.inl rfl))
        (pss_one (ps_if (pt_cmpR op_eq (pe_call T.ok hr1 (by rfl) T.g T.kp T.b .nil pass0 (pa_cons (pv 0) (pa_cons pe_int pa_nil))) pe_int (nomark _))
          (pss_one (ps_expr (pe_bm PySem.F.plainAttrs_list PySem.F.slot_list_append PySem.F.type_list_append mt_append (pv 4) (pa_cons (pe_tup (pa_cons pe_str (pa_cons (pe_call A.ok hr (by rfl) A.g A.kp A.b .nil pass0 (pa_cons (pv 0) (pa_cons (pv 1) pa_nil)))
            (pa_cons (pe_call AM.ok hr (by rfl) AM.g AM.kp AM.b .nil pass0 (pa_cons (pv 0) (pa_cons (pv 3) pa_nil))) pa_nil)))) pa_nil))))
          (pss_one (ps_expr (pe_bm PySem.F.plainAttrs_list PySem.F.slot_list_append PySem.F.type_list_append mt_append (pv 4) (pa_cons (pe_tup (pa_cons pe_str (pa_cons (pe_call A.ok hr (by rfl) A.g A.kp A.b .nil pass0 (pa_cons (pv 0) (pa_cons (pv 1) pa_nil)))
            (pa_cons (pe_call A.ok hr (by rfl) A.g A.kp A.b .nil pass0 (pa_cons (pv 0) (pa_cons (pv 1) pa_nil))) (pa_cons (pe_call AM.ok hr (by rfl) AM.g AM.kp AM.b .nil pass0 (pa_cons (pv 0) (pa_cons (pv 3) pa_nil))) pa_nil))))) pa_nil)))))))
      (pss_one (ps_ret (pv 4)))), ?_⟩
    refine ⟨Nat.zero_le _, fun r nr => ?_⟩
    have rp : r ≠ p := by
      obtain ⟨x, y, e, _⟩ := hp
      exact (ne_of_none e nr).symm
    have rn : nl ≠ r := ne_of_none hn nr
    refine ⟨_, rfl, _, rfl, by omega, by omega, ?_⟩
    refine for_it walk_range (fun i σ H' => ∃ xs ds y5, σ = [some (.ref p), some (.ref nl), some (.int (m : Nat)), some (.int sz), some (.ref r), y5] ∧ H' r = some (.lst xs) ∧ DtAll K H' xs (deedsD ds) ∧ ds.length = i ∧ (∀ d ∈ ds, d.Ok zs) ∧ Pot H' p ∧ But p H H')
      ⟨[], [], _, rfl, upd_same, .nil, rfl, fun z hz => absurd hz List.not_mem_nil, hp.new nr, But.new nr⟩ (fun _ _ _ _ _ => trivial) (fun i x σ H1' H1 hi hP hY => ?_) (fun σ H1 hP => ?_)
    · obtain ⟨rfl, rfl⟩ := hY
      obtain ⟨xs, ds, y5, rfl, hr1', dd, ld, od, hp1, hb1⟩ := hP
      have hi' : i < m := by simpa using hi
      have lx : xs.length = i := by
        rw [dd.len]
        unfold deedsD
        rw [List.length_map, ld]
      have potr : ∀ H', Pot H' p → ∀ o, Pot (upd H' r o) p := fun H' hp' o => by
        obtain ⟨x, y, e, rr⟩ := hp'
        exact ⟨x, y, by rw [upd_ne rp.symm]; exact e, rr⟩
      -- the row with one deed more
      have more : ∀ (H' : Hp) (t : Addr) (us : List V) (d : Deed), Pot H' p → But p H1 H' → H' t = none → (∀ H'', KT H' H'' → H'' t = some (.tup us) → Dt K H'' (.ref t) (deedD d)) → d.Ok zs →
          ∃ xs' ds' y5', [some (V.ref p), some (.ref nl), some (.int (m : Nat)), some (.int sz), some (.ref r), some (.int (0 + (i : Nat)))] = [some (.ref p), some (.ref nl), some (.int (m : Nat)), some (.int sz), some (.ref r), y5'] ∧
            upd (upd H' t (.tup us)) r (.lst (xs ++ [.ref t])) r = some (.lst xs') ∧ DtAll K (upd (upd H' t (.tup us)) r (.lst (xs ++ [.ref t]))) xs' (deedsD ds') ∧ ds'.length = i + 1 ∧ (∀ d ∈ ds', d.Ok zs) ∧ Pot (upd (upd H' t (.tup us)) r (.lst (xs ++ [.ref t]))) p ∧
            But p H (upd (upd H' t (.tup us)) r (.lst (xs ++ [.ref t]))) := fun H' t us d hp' hb' nt hd ok => by
        have hr' := hb' _ _ rp hr1'
        have tr : t ≠ r := (ne_of_none hr' nt).symm
        have kt : KT H' (upd (upd H' t (.tup us)) r (.lst (xs ++ [.ref t]))) := (kt_same (same_upd nt)).trans (kt_upd (o := .lst xs) (by rw [upd_ne tr.symm]; exact hr') fun z => z)
        have k1 : KT H1 H' := fun b o e t' => hb' b o (fun z => by
          obtain ⟨x, y, e', _⟩ := hp1
          rw [z, e'] at e
          cases e
          exact t') e
        refine ⟨xs ++ [.ref t], ds ++ [d], _, rfl, upd_same, ?_, by rw [List.length_append, ld]; rfl, fun d' h' => ?_, potr _ (hp'.new nt) _, fun b o n e => ?_⟩
        · unfold deedsD
          rw [List.map_append]
          exact (DtAll.keepT (k1.trans kt) _ (tup_deeds ds) dd).append (.cons (hd _ kt (by rw [upd_ne tr, upd_same])) .nil)
        · rcases List.mem_append.mp h' with h' | h'
          · exact od d' h'
          · rw [List.mem_singleton.mp h']
            exact ok
        · have br : b ≠ r := ne_of_none e nr
          have e2 := hb' _ _ n (hb1 _ _ n e)
          rw [upd_ne br, upd_ne (ne_of_none e2 nt)]
          exact e2
      have lzs : 0 < (zs.map V.str).length := by
        rw [List.length_map]
        omega
      have lzs2 : (zs.map V.str).length ≤ 1000 := by
        rw [List.length_map]
        exact z1
      have memS : ∀ {v : V}, v ∈ zs.map V.str → ∃ z ∈ zs, v = .str z := fun {v} h => by
        obtain ⟨z, hz, rfl⟩ := List.mem_map.mp h
        exact ⟨z, hz, rfl⟩
      refine ⟨.ref p, rfl, p, 3, rfl, hp1, litM _ (by decide) (by decide), fun k H2 k0 k1 hp2 hb2 => ⟨rfl, _, rfl, ite2 (fun e => ?_) (fun e => ?_)⟩⟩
      · refine ⟨.ref r, rfl, .inl ⟨rfl, _, .inl (.inl (hb2 _ _ rp hr1'))⟩, .ref p, rfl, .ref nl, rfl, p, _, rfl, hp2, .inr ⟨nl, _, rfl, np, hb2 _ _ np (hb1 _ _ np hn), lzs, lzs2, fun v H3 hv hp3 hb3 => ?_⟩⟩
        obtain ⟨z, hz, rfl⟩ := memS hv
        refine ⟨.ref p, rfl, .int sz, rfl, p, sz, rfl, hsz, hp3, fun n H4 hn4 hp4 hb4 => ⟨by show 3 ≤ sizeLine; decide, fun t nt => ?_⟩⟩
        have hb14 := hb2.trans (hb3.trans hb4)
        refine ⟨r, xs, _, rfl, rfl, by rw [upd_ne (ne_of_none (hb14 _ _ rp hr1') nt)]; exact hb14 _ _ rp hr1', small1000 (by omega), ?_⟩
        exact more H4 t _ (.give z n) hp4 hb14 nt (fun H'' _ ht => .tup (.inl (.inl ht)) (.cons (.str _) (.cons (.str _) (.cons (.int _) .nil)))) ⟨hz, hn4⟩
      · refine ⟨.ref r, rfl, .inl ⟨rfl, _, .inl (.inl (hb2 _ _ rp hr1'))⟩, .ref p, rfl, .ref nl, rfl, p, _, rfl, hp2, .inr ⟨nl, _, rfl, np, hb2 _ _ np (hb1 _ _ np hn), lzs, lzs2, fun v H3 hv hp3 hb3 => ?_⟩⟩
        obtain ⟨z, hz, rfl⟩ := memS hv
        refine ⟨.ref p, rfl, .ref nl, rfl, p, _, rfl, hp3, .inr ⟨nl, _, rfl, np, (hb2.trans hb3) _ _ np (hb1 _ _ np hn), lzs, lzs2, fun v' H5 hv' hp5 hb5 => ?_⟩⟩
        obtain ⟨y, hy, rfl⟩ := memS hv'
        refine ⟨.ref p, rfl, .int sz, rfl, p, sz, rfl, hsz, hp5, fun n H4 hn4 hp4 hb4 => ⟨by show 4 ≤ sizeLine; decide, fun t nt => ?_⟩⟩
        have hb14 := hb2.trans (hb3.trans (hb5.trans hb4))
        refine ⟨r, xs, _, rfl, rfl, by rw [upd_ne (ne_of_none (hb14 _ _ rp hr1') nt)]; exact hb14 _ _ rp hr1', small1000 (by omega), ?_⟩
        exact more H4 t _ (.put z y n) hp4 hb14 nt (fun H'' _ ht => .tup (.inl (.inl ht)) (.cons (.str _) (.cons (.str _) (.cons (.str _) (.cons (.int _) .nil))))) ⟨hz, hy, hn4⟩
    · obtain ⟨xs, ds, y5, rfl, hr1', dd, ld, od, hp1, hb1⟩ := hP
      exact ⟨.ref r, rfl, q r xs ds H1 nr rp hr1' dd (by simpa using ld) od hp1 hb1⟩
end
end Rc

namespace Rc
open PySem PySem.Spec PyProof.Rows L2 RZ
section
variable {P : Program} {w : World} {K : PySem.W.Frag} {mg : Str → Option Value} {base : Heap}
/-! ### _law_cash -/
abbrev sLCs : Stmt := topS 59
abbrev nLCs : List Str := ["_law_model_here", "_law_who", "_law_found", "_law_name_here", "_law_to", "_law_amount_here"]
theorem scLCs : FnScope nLCs ["_law_model_here", "_law_who"] (defScope sLCs) := ⟨rfl, rfl, rfl, by decide +kernel, rfl, by decide +kernel, by decide +kernel⟩
def spLCs (K : PySem.W.Frag) : Sp := fun vs H Q _ => ∃ (a : MdA) (D : Md) (zs : List Str) (z : Str) (j : Nat), vs = [.ref a.m, .str z] ∧ ModelAt K H zs a D ∧ zs[j]? = some z ∧ RowsOk D ∧ ∀ H', Same H H' → Q (.int (cashD D j z)) H'
theorem ok_lcs {f fp : Addr} {fd fdp : FuncData} (F : Fun K "_law_cash" "_law_cash" sLCs f fd) (B3 : Blt3 mg) (PT : Has P w K mg base 1 "_law_parted" ["_law_model_here", "_law_who"] (spLPt K) fp fdp) : FnOk P w K mg base CX0 2 f fd ["_law_model_here", "_law_who"] (spLCs K) := by
  refine F.ok scLCs (fun vs H Q E h => ?_) (fun cdv Ar outer s H vs Q E hr h => ?_)
  · obtain ⟨_, _, _, _, _, rfl, _⟩ := h
    rfl
  · obtain ⟨a, D, zs, z, j, rfl, hM, ej, ro, q⟩ := h
    have hu := hu_of hr
    refine ⟨_, pss_cons (ps_set (i := 2) scLCs.nd rfl (.inl rfl) (pe_op op_sub (pe_dget hu (pe_dget hu (pv 0) pe_str (fun _ _ => rfl)) (pv 1) (fun _ _ => rfl)) (pe_dget hu (pe_dget hu (pv 0) pe_str (fun _ _ => rfl)) (pv 1) (fun _ _ => rfl))))
      (pss_cons (ps_for PassesOwn.never rfl (pi_list (pe_dget hu (pv 0) pe_str (fun _ _ => rfl))) (pg_name (i := 3) scLCs.nd rfl (.inl rfl))
        (pss_one (ps_set (i := 2) scLCs.nd rfl (.inl rfl) (pe_op op_add (pv 2) (pe_callB (cr_sum rfl) (by rfl) B3.sum (by decide +kernel) (pa_cons
          (pe_lc (own := [("_law_to", 4), ("_law_amount_here", 5)]) (g := gTup K 2 (gCons (gName 4) (gCons (gName 5) gNil))) rfl scLCs.nd
            (pi_list (pe_ix ix_tup (pe_call PT.ok hr (by rfl) PT.g PT.kp PT.b .nil pass0 (pa_cons (pv 0) (pa_cons (pv 3) pa_nil))) pe_int (fun _ _ => rfl)))
            (blkOk_by (N := nLCs) (sc := defScope sLCs) (own := [("_law_to", 4), ("_law_amount_here", 5)]) (by decide +kernel))
            (fun _ _ _ _ _ => pg_tup rfl (pgs_cons (pg_name (i := 4) scLCs.nd rfl (.inl rfl) (hf := .inr rfl)) (pgs_cons (pg_name (i := 5) scLCs.nd rfl (.inl rfl) (hf := .inr rfl)) pgs_nil)))
            (fun _ _ _ _ _ => pts_one (pt_cmpR op_eq (pv 4) (pv 1) (nomark _))) (fun _ _ _ _ _ => pv 5)) pa_nil))))))
      (pss_one (ps_ret (pv 2)))), ?_⟩
    obtain ⟨gv, f', l', r, xs, eg, ef, el', er, hr0, hd0⟩ := hM.at_ ej
    refine ⟨.ref a.m, rfl, a.m, .ref a.dg, rfl, hM.g1, .str z, rfl, a.dg, .int gv, rfl, hM.gg ej eg, .ref a.m, rfl, a.m, .ref a.df, rfl, hM.g2, .str z, rfl, a.df, .int f', rfl, hM.gf ej ef, _, _, rfl, rfl, ?_⟩
    refine ⟨.ref a.m, rfl, a.m, .ref a.lo, rfl, hM.g0, a.lo, rfl, ⟨_, .inl (.inl hM.ho)⟩, ?_⟩
    refine for_it (walk_list (K := K) (a := a.lo) (xs := zs.map V.str)) (fun i σ H' => ∃ y3 y4 y5, σ = [some (.ref a.m), some (.str z), some (.int (gv - f' + (((D.notes.zip D.fallen).take i).map fun p => sumTo z (goneN p.1 p.2)).sum)), y3, y4, y5] ∧ Same H H')
      ⟨_, _, _, by simp; rfl, Same.refl _⟩ (fun i σ H' _ hP => ?_) (fun i x σ H2' H2 hi hP hY => ?_) (fun σ H' hP => ?_)
    · obtain ⟨_, _, _, _, s1⟩ := hP
      exact .inl (.inl (s1 _ _ hM.ho))
    · obtain ⟨rfl, hx⟩ := hY
      obtain ⟨y3, y4, y5, rfl, s2⟩ := hP
      rw [List.length_map] at hi
      have exx : x = .str zs[i] := by
        rw [List.getElem?_map, List.getElem?_eq_getElem hi] at hx
        exact (Option.some.inj hx).symm
      subst exx
      have hs : i < D.notes.length := by rw [hM.ln]; exact hi
      have hdr : i < D.fallen.length := by rw [hM.lf]; exact hi
      have ll := ro _ (List.getElem_mem hs)
      refine ⟨_, rfl, .ref a.m, rfl, .str zs[i], rfl, a, D, zs, _, i, _, _, rfl, model_same hM s2, List.getElem?_eq_getElem hi, List.getElem?_eq_getElem hs, List.getElem?_eq_getElem hdr, by omega, fun t g m gx mx H4 s4 ht ng nm hg hm dg dm => ?_⟩
      refine ⟨t, _, 0, .ref g, rfl, rfl, .inl (.inl ht), rfl, g, rfl, ⟨_, .inl (.inl hg)⟩, fun D' nD => ?_⟩
      generalize hG : goneN D.notes[i] D.fallen[i] = G at dg
      have lg : gx.length = G.length := by
        rw [dg.len]
        unfold notesD
        rw [List.length_map]
      have lG : G.length ≤ 60 := by
        rw [← hG]
        exact Nat.le_trans (goneN_len _ _) ll
      refine lc_it (walk_list (K := K) (a := g) (xs := gx)) (fun i' H' => Same H4 H' ∧ H' D' = some (.lst (((G.take i').filter fun n => decide (n.1 = z)).map fun n => .int n.2))) ⟨same_upd nD, upd_same⟩ (fun i' H' _ hP => hP.1.seq (.inl (.inl hg)))
        (fun i' x' H5' H5 hi' hP hY => ?_) (fun H5 hP => ?_)
      · obtain ⟨rfl, hx'⟩ := hY
        obtain ⟨hil, dn⟩ := (DtAll.same hP.1 _ dg).notes_get hx'
        obtain ⟨na, rfl, qn⟩ := note_inv dn
        refine ⟨na, _, rfl, qn, rfl, _, _, rfl, _, _, rfl, rfl, rfl, _, rfl, _, rfl, rfl, _, rfl, ?_⟩
        have tk := take_succ hil
        by_cases hz : G[i'].1 = z
        · rw [show decide (V.str G[i'].1 = V.str z) = true from decide_eq_true (by rw [hz])]
          refine iteT ⟨_, rfl, _, hP.2, ?_, fun c o ec => ?_, ?_⟩
          · rw [List.length_map]
            have := List.length_filter_le (fun n : Str × Int => decide (n.1 = z)) (G.take i')
            rw [List.length_take] at this
            exact small1000 (by omega)
          · rw [upd_ne (ne_of_none ec nD)]
            exact hP.1 c o ec
          · rw [upd_same, tk, List.filter_append, List.map_append]
            simp [hz]
        · rw [show decide (V.str G[i'].1 = V.str z) = false from decide_eq_false (fun c => hz (V.str.inj c))]
          refine iteF ⟨hP.1, ?_⟩
          rw [hP.2, tk, List.filter_append]
          simp [hz]
      · refine ⟨D', (G.filter fun n => decide (n.1 = z)).map (·.2), rfl, .inl (.inl ?_), _, _, rfl, rfl, ?_⟩
        · rw [hP.2, lg, List.take_length, List.map_map]
          rfl
        refine ⟨some (.str zs[i]), y4, y5, ?_, s2.trans (s4.trans hP.1)⟩
        have tk : (D.notes.zip D.fallen).take (i + 1) = (D.notes.zip D.fallen).take i ++ [(D.notes[i], D.fallen[i])] := by
          rw [List.take_add_one, List.getElem?_zip_eq_some (z := (D.notes[i], D.fallen[i])) |>.mpr ⟨List.getElem?_eq_getElem hs, List.getElem?_eq_getElem hdr⟩]
          rfl
        rw [tk, List.map_append, List.sum_append]
        simp only [List.map_cons, List.map_nil, List.sum_cons, List.sum_nil, Int.add_zero]
        rw [hG, ← Int.add_assoc]
        rfl
    · obtain ⟨y3, y4, y5, rfl, s2⟩ := hP
      refine ⟨_, rfl, ?_⟩
      rw [List.take_of_length_le (by rw [List.length_zip, hM.ln, hM.lf, Nat.min_self, List.length_map]; exact Nat.le_refl _)]
      have ec : cashD D j z = gv - f' + ((D.notes.zip D.fallen).map fun p => sumTo z (goneN p.1 p.2)).sum := by
        unfold cashD sumsD
        rw [getD_of eg, getD_of ef]
      rw [← ec]
      exact q _ s2
end
end Rc

namespace Rc
open PySem PySem.Spec PyProof.Rows L2 RZ
section
variable {P : Program} {w : World} {K : PySem.W.Frag} {mg : Str → Option Value} {base : Heap}
/-! ### _law_done -/
abbrev sLDn : Stmt := topS 64
theorem scLDn : FnScope ["_law_model_here", "_law_deed"] ["_law_model_here", "_law_deed"] (defScope sLDn) := ⟨rfl, rfl, rfl, by decide +kernel, rfl, by decide +kernel, by decide +kernel⟩
def spLDn (K : PySem.W.Frag) : Sp := fun vs H Q _ => ∃ (a : MdA) (D : Md) (zs : List Str) (v : V) (d : Deed), vs = [.ref a.m, v] ∧ ModelAt K H zs a D ∧ Dt K H v (deedD d) ∧ d.Ok zs ∧ zs.length ≤ 13 ∧ RowsOk D ∧ ∀ H', ButF a H H' → ModelAt K H' zs a (doneD zs D d) → Q .non H'
theorem ok_ldn {f : Addr} {fd : FuncData} (F : Fun K "_law_done" "_law_done" sLDn f fd) : FnOk P w K mg base CX0 1 f fd ["_law_model_here", "_law_deed"] (spLDn K) := by
  refine F.ok scLDn (fun vs H Q E h => ?_) (fun cdv Ar outer s H vs Q E hr h => ?_)
  · obtain ⟨_, _, _, _, _, rfl, _⟩ := h
    rfl
  · obtain ⟨a, D, zs, v, d, rfl, hM, hd, od, lz, ro, q⟩ := h
    have hu := hu_of hr
    refine ⟨_, pss_one (ps_if (pt_cmpR op_eq (pe_ix ix_tupD (pv 1) pe_int (fun _ _ => rfl)) pe_str (nomark _))
      (pss_one (ps_dput hu (pe_dget hu (pv 0) pe_str (fun _ _ => rfl)) (pe_ix ix_tupD (pv 1) pe_int (fun _ _ => rfl))
        (pe_op op_add (pe_dget hu (pe_dget hu (pv 0) pe_str (fun _ _ => rfl)) (pe_ix ix_tupD (pv 1) pe_int (fun _ _ => rfl)) (fun _ _ => rfl)) (pe_ix ix_tupD (pv 1) pe_int (fun _ _ => rfl))) rfl))
      (pss_one (ps_expr (pe_bm PySem.F.plainAttrs_list PySem.F.slot_list_append PySem.F.type_list_append mt_append (pe_dget hu (pe_dget hu (pv 0) pe_str (fun _ _ => rfl)) (pe_ix ix_tupD (pv 1) pe_int (fun _ _ => rfl)) (fun _ _ => rfl))
        (pa_cons (pe_tup (pa_cons (pe_ix ix_tupD (pv 1) pe_int (fun _ _ => rfl)) (pa_cons (pe_ix ix_tupD (pv 1) pe_int (fun _ _ => rfl)) pa_nil))) pa_nil))))), ?_⟩
    cases d with
    | give z n =>
      have ej := idx_get od.1
      obtain ⟨gv, f', l', r, xs, eg, ef, el, er, hr0, hd0⟩ := hM.at_ ej
      refine ⟨v, rfl, _, 0, .str "give", hd, rfl, rfl, fun v0 d0 => ?_⟩
      cases d0
      refine ⟨rfl, _, rfl, ?_⟩
      rw [decide_eq_true rfl]
      refine iteT ⟨.ref a.m, rfl, a.m, .ref a.dg, rfl, hM.g1, v, rfl, _, 1, .str z, hd, rfl, rfl, fun v1 d1 => ?_⟩
      cases d1
      refine ⟨a.dg, .int gv, rfl, hM.gg ej eg, v, rfl, _, 2, .int n, hd, rfl, rfl, fun v2 d2 => ?_⟩
      cases d2
      refine ⟨_, _, rfl, rfl, .ref a.m, rfl, a.m, .ref a.dg, rfl, hM.g1, v, rfl, _, 1, .str z, hd, rfl, rfl, fun v3 d3 => ?_⟩
      cases d3
      have hj : zs.idxOf z < D.given.length := by
        rw [hM.lg]
        exact List.idxOf_lt_length_of_mem od.1
      refine ⟨a.dg, _, rfl, DPut.k (k := Sum.inr z) hM.hg (by rw [dct_len (by rw [List.length_map, hM.lg])]; exact small1000 (by omega)), ?_⟩
      rw [dct_put hM.zn ej (by rw [List.length_map]; exact hj), map_set V.int]
      have bf' : ButF a H (upd H a.dg (.dK (dct zs ((D.given.set (zs.idxOf z) (gv + n)).map V.int)))) := fun b o nf e => by
        rw [upd_ne (fun z => nf (.inl z))]
        exact e
      have rne : ∀ r ∈ a.rs, r ≠ a.dg := fun r hr z => by
        obtain ⟨i, hi, e'⟩ := List.getElem_of_mem hr
        have hn : i < D.notes.length := by
          rw [hM.ln, ← hM.lr]
          exact hi
        obtain ⟨xs, e1, _⟩ := hM.rows i r _ (by rw [List.getElem?_eq_getElem hi, e']) (List.getElem?_eq_getElem hn)
        rw [z, hM.hg] at e1
        cases e1
      have lone : a.lo ≠ a.dg := fun z => by
        have := hM.ho
        rw [z, hM.hg] at this
        cases this
      refine q _ bf' ⟨?_, ?_, ?_, ?_, ?_, fun i r l e1 e2 => ?_, hM.nd, hM.olo, hM.ogf, hM.ogn, hM.ogm, hM.omn, hM.zn, ?_, hM.lf, hM.ln, hM.lr⟩
      · rw [upd_ne hM.ogm.symm]
        exact hM.hm
      · rw [upd_ne lone]
        exact hM.ho
      · rw [upd_same]
        show _ = some (HO.dK (dct zs ((D.given.set (zs.idxOf z) (D.given.getD (zs.idxOf z) 0 + n)).map V.int)))
        rw [getD_of eg]
      · rw [upd_ne hM.ogf.symm]
        exact hM.hf
      · rw [upd_ne hM.ogn.symm]
        exact hM.hn
      · obtain ⟨xs, e3, d3⟩ := hM.rows i r l e1 e2
        refine ⟨xs, ?_, DtAll.keepT (bf'.kt hM) _ (tup_notes l) d3⟩
        rw [upd_ne (rne r (List.mem_of_getElem? e1))]
        exact e3
      · show (D.given.set _ _).length = _
        rw [List.length_set]
        exact hM.lg
    | put z y n =>
      have ej := idx_get od.1
      obtain ⟨gv, f', l', r, xs, eg, ef, el, er, hr0, hd0⟩ := hM.at_ ej
      refine ⟨v, rfl, _, 0, .str "put", hd, rfl, rfl, fun v0 d0 => ?_⟩
      cases d0
      refine ⟨rfl, _, rfl, ?_⟩
      rw [decide_eq_false give_ne_put]
      refine iteF ⟨.ref a.m, rfl, a.m, .ref a.dn, rfl, hM.g3, v, rfl, _, 1, .str z, hd, rfl, rfl, fun v1 d1 => ?_⟩
      cases d1
      refine ⟨a.dn, .ref r, rfl, hM.gn ej er, .inl ⟨rfl, _, .inl (.inl hr0)⟩, v, rfl, _, 2, .str y, hd, rfl, rfl, fun v2 d2 => ?_⟩
      cases d2
      refine ⟨v, rfl, _, 3, .int n, hd, rfl, rfl, fun v3 d3 => ?_⟩
      cases d3
      refine ⟨by show 2 ≤ sizeLine; decide, fun t nt => ?_⟩
      have tr : t ≠ r := (ne_of_none hr0 nt).symm
      have lx : xs.length ≤ 60 := by
        rw [hd0.len]
        unfold notesD
        rw [List.length_map]
        exact ro _ (List.mem_of_getElem? el)
      refine ⟨r, xs, _, rfl, rfl, by rw [upd_ne tr.symm]; exact hr0, small1000 (by omega), ?_⟩
      have rm : r ∈ a.rs := List.mem_of_getElem? er
      have bf' : ButF a H (upd (upd H t (.tup [V.str y, V.int n])) r (.lst (xs ++ [V.ref t]))) := fun b o nf e => by
        have nb : b ≠ r := fun z => nf (.inr (by rw [z]; exact rm))
        rw [upd_ne nb, upd_ne (ne_of_none e nt)]
        exact e
      have keepD : ∀ {b : Addr} {o : HO}, b ≠ r → H b = some o → upd (upd H t (.tup [V.str y, V.int n])) r (.lst (xs ++ [V.ref t])) b = some o := fun {b o} n e => by
        rw [upd_ne n, upd_ne (ne_of_none e nt)]
        exact e
      have dne : ∀ {b : Addr} {kvs : List (Key × V)}, H b = some (.dK kvs) → b ≠ r := fun {b kvs} e z => by
        rw [z, hr0] at e
        cases e
      refine q _ bf' ⟨keepD (dne hM.hm) hM.hm, keepD (fun z => hM.olo (by rw [z]; exact rm)) hM.ho, keepD (dne hM.hg) hM.hg, keepD (dne hM.hf) hM.hf, keepD (dne hM.hn) hM.hn, fun i r' l e1 e2 => ?_, hM.nd, hM.olo, hM.ogf, hM.ogn, hM.ogm, hM.omn, hM.zn, hM.lg, hM.lf, ?_, hM.lr⟩
      · have hkt := bf'.kt hM
        by_cases hi : i = zs.idxOf z
        · have er' : r' = r := by
            rw [hi, er] at e1
            exact (Option.some.inj e1).symm
          subst er'
          have e2' : (D.notes.set (zs.idxOf z) (D.notes.getD (zs.idxOf z) [] ++ [(y, n)]))[i]? = some l := e2
          rw [hi, List.getElem?_set_self (by rw [hM.ln]; exact List.idxOf_lt_length_of_mem od.1), getD_of el] at e2'
          cases e2'
          refine ⟨_, upd_same, ?_⟩
          unfold notesD
          rw [List.map_append]
          refine (DtAll.keepT hkt _ (tup_notes l') hd0).append (.cons (.tup (.inl (.inl ?_)) (.cons (.str _) (.cons (.int _) .nil))) .nil)
          rw [upd_ne tr, upd_same]
        · have e2' : (D.notes.set (zs.idxOf z) (D.notes.getD (zs.idxOf z) [] ++ [(y, n)]))[i]? = some l := e2
          rw [List.getElem?_set_ne (fun c => hi c.symm)] at e2'
          obtain ⟨xs', e3, d3⟩ := hM.rows i r' l e1 e2'
          have nr' : r' ≠ r := fun c => by
            obtain ⟨h1, k1⟩ := List.getElem?_eq_some_iff.mp e1
            obtain ⟨h2, k2⟩ := List.getElem?_eq_some_iff.mp er
            exact hi ((List.getElem_inj hM.nd).mp (k1.trans (c.trans k2.symm)))
          exact ⟨xs', keepD nr' e3, DtAll.keepT hkt _ (tup_notes l) d3⟩
      · show (D.notes.set _ _).length = _
        rw [List.length_set]
        exact hM.ln
end
end Rc

namespace Rc
open PySem PySem.Spec PyProof.Rows L2 RZ
section
variable {P : Program} {w : World} {K : PySem.W.Frag} {mg : Str → Option Value} {base : Heap}
/-! ### _law_alike, whatever has fallen -/
abbrev sLAl : Stmt := topS 65
abbrev nLAl : List Str := ["_law_model_here", "_law_book", "_law_who", "_law_told", "_law_wanted"]
theorem scLAl : FnScope nLAl ["_law_model_here", "_law_book"] (defScope sLAl) := ⟨rfl, rfl, rfl, by decide +kernel, rfl, by decide +kernel, by decide +kernel⟩
def spLAl (K : PySem.W.Frag) (C : Addr) : Sp := fun vs H Q _ => ∃ (a : MdA) (D : Md) (zs : List Str) (b : Addr), vs = [.ref a.m, .ref b] ∧ ModelAt K H zs a D ∧ BookAt K C H b (bkOf zs D) ∧ Gs zs D ∧ Gb D ∧ ∀ H', Same H H' → Q (.bl true) H'
def toldD (g f c : Int) (l p : List (Str × Int)) : PyData := .list [.int g, .int f, .int c, .list (notesD l), .list (notesD p)]
theorem notes_depth {zs : List Str} (hz : ∀ z ∈ zs, nameT z = true) : ∀ {l : List (Str × Int)}, (∀ n ∈ l, NoteOk zs n) → PyData.depthAll (notesD l) ≤ 1
  | [], _ => Nat.zero_le _
  | a :: r, h => by
    show PyData.depthAll (noteD a :: notesD r) ≤ 1
    simp only [PyData.depthAll]
    have h1 := (nice_note hz (h a List.mem_cons_self)).2
    have h2 := notes_depth hz fun n hn => h n (List.mem_cons_of_mem _ hn)
    omega
theorem nice_told {zs : List Str} (hz : ∀ z ∈ zs, nameT z = true) {g f c : Int} {l p : List (Str × Int)} (hg : BigOk g) (hf : BigOk f) (hc : BigOk c) (hl : ∀ n ∈ l, NoteOk zs n) (ll : l.length ≤ 60) (hp : ∀ n ∈ p, NoteOk zs n) (lp : p.length ≤ 60) : NiceD (toldD g f c l p) 8000 := by
  have nl := (nice_notes hz hl).list
  have np := (nice_notes hz hp).list
  have dl : (PyData.list (notesD l)).depth ≤ 4 := by
    simp only [PyData.depth]
    have := notes_depth hz hl
    omega
  have dp : (PyData.list (notesD p)).depth ≤ 4 := by
    simp only [PyData.depth]
    have := notes_depth hz hp
    omega
  have z4 : ∀ i : Int, (PyData.int i).depth ≤ 4 := fun i => by simp only [PyData.depth]; omega
  have a := (NiceA.cons (nice_int hg) (z4 _) (NiceA.cons (nice_int hf) (z4 _) (NiceA.cons (nice_int hc) (z4 _) (NiceA.cons nl dl (NiceA.cons np dp NiceA.nil))))).list
  exact ⟨a.sh, a.lv, a.nd, a.dp, Nat.le_trans a.bk (by omega), a.cl⟩
theorem ok_lal {f f1 f2 f3 f4 f5 f6 f7 f8 C : Addr} {fd fd1 fd2 fd3 fd4 fd5 fd6 fd7 fd8 : FuncData} (F : Fun K "_law_alike" "_law_alike" sLAl f fd) (T : ClsF K C) (B2 : Blt2 mg)
    (PE1 : HasM P w K mg base C 1 "persons" ["self"] (spPersons K C) f1 fd1) (GV : HasM P w K mg base C 4 "given" ["self", "who"] (spNum K C Bk.gifts) f2 fd2) (FL : HasM P w K mg base C 4 "fallen" ["self", "who"] (spNum K C Bk.drops) f3 fd3)
    (CS : HasM P w K mg base C 5 "cash" ["self", "who"] (spCalc K C cashM) f4 fd4) (NT : HasM P w K mg base C 4 "notes" ["self", "who"] (spRow K C fun l _ => l) f5 fd5) (PL : HasM P w K mg base C 5 "pile" ["self", "who"] (spRow K C leftN) f6 fd6)
    (LC : Has P w K mg base 2 "_law_cash" ["_law_model_here", "_law_who"] (spLCs K) f7 fd7) (LL : Has P w K mg base 2 "_law_left" ["_law_model_here", "_law_who"] (spLLf K) f8 fd8) :
    FnG P w K mg base CX0 6 f fd ["_law_model_here", "_law_book"] (spLAl K C) := by
  refine okG0 F scLAl (fun vs H Q E h => ?_) (fun cdv Ar outer s H vs Q E hr hgd h => ?_)
  · obtain ⟨_, _, _, _, rfl, _⟩ := h
    rfl
  · obtain ⟨a, D, zs, b, rfl, hM, hb, g, gb, q⟩ := h
    have nz := g.nz
    have hu := hu_of hr
    have hr1 := hr.mono (show 1 ≤ 5 by decide)
    have hr2 := hr.mono (show 2 ≤ 5 by decide)
    have hr4 := hr.mono (show 4 ≤ 5 by decide)
    refine ⟨_, pss_cons (ps_if (pt_cmpR (op_neD hr.units) (pe_meth0 (pv 1) T.cl PE1.m PE1.ok hr1 PE1.b .nil pass0) (pe_dget hu (pv 0) pe_str (fun _ _ => rfl)) (nomark _)) (pss_one (ps_ret pe_bl)) pss_nil)
      (pss_cons (ps_for PassesOwn.never rfl (pi_list (pe_dget hu (pv 0) pe_str (fun _ _ => rfl))) (pg_name (i := 2) scLAl.nd rfl (.inl rfl))
        (pss_cons (ps_set (i := 3) scLAl.nd rfl (.inl rfl) (pe_lst (pa_cons (pe_meth (pv 1) T.cl GV.m GV.ok hr4 GV.b .nil pass0 (pa_cons (pv 2) pa_nil)) (pa_cons (pe_meth (pv 1) T.cl FL.m FL.ok hr4 FL.b .nil pass0 (pa_cons (pv 2) pa_nil))
          (pa_cons (pe_meth (pv 1) T.cl CS.m CS.ok hr CS.b .nil pass0 (pa_cons (pv 2) pa_nil)) (pa_cons (pe_meth (pv 1) T.cl NT.m NT.ok hr4 NT.b .nil pass0 (pa_cons (pv 2) pa_nil)) (pa_cons (pe_meth (pv 1) T.cl PL.m PL.ok hr PL.b .nil pass0 (pa_cons (pv 2) pa_nil)) pa_nil)))))))
        (pss_cons (ps_set (i := 4) scLAl.nd rfl (.inl rfl) (pe_lst (pa_cons (pe_dget hu (pe_dget hu (pv 0) pe_str (fun _ _ => rfl)) (pv 2) (fun _ _ => rfl)) (pa_cons (pe_dget hu (pe_dget hu (pv 0) pe_str (fun _ _ => rfl)) (pv 2) (fun _ _ => rfl))
          (pa_cons (pe_call LC.ok hr2 (by rfl) LC.g LC.kp LC.b .nil pass0 (pa_cons (pv 0) (pa_cons (pv 2) pa_nil))) (pa_cons (pe_dget hu (pe_dget hu (pv 0) pe_str (fun _ _ => rfl)) (pv 2) (fun _ _ => rfl)) pa_nil))))))
        (pss_one (ps_if (pt_cmpR op_ne (pe_callB (call_repr hr hgd) (by rfl) B2.repr (by decide +kernel) (pa_cons (pv 3) pa_nil))
          (pe_callB (call_repr hr hgd) (by rfl) B2.repr (by decide +kernel) (pa_cons (pe_op op_cat (pv 4) (pe_lst (pa_cons (pe_call LL.ok hr2 (by rfl) LL.g LL.kp LL.b .nil pass0 (pa_cons (pv 0) (pa_cons (pv 2) pa_nil))) pa_nil))) pa_nil)) (nomark _))
          (pss_one (ps_ret pe_bl)) pss_nil)))))
      (pss_one (ps_ret pe_bl))), ?_⟩
    obtain ⟨dx, tn, on, wg, ws, wd, e, h1, hn, h2, h3, h4⟩ := hb.ex
    have okb := g.ok
    have nn := nice_names nz.nm
    refine ⟨.ref b, rfl, b, dx, _, rfl, e, bf_no (NoF.mk' (by decide +kernel)), b, _, rfl, hb, fun l nl => ?_⟩
    have s1 := same_upd (o := .lst ((bkOf zs D).names.map V.str)) nl
    have hM1 := model_same hM s1
    refine ⟨.ref a.m, rfl, a.m, .ref a.lo, rfl, hM1.g0, .list (zs.map .str), .list (zs.map .str), .lst (.inl (.inl upd_same)) (DpAll.strs zs), .lst (.inl (.inl hM1.ho)) (DpAll.strs zs), nice_shaped nn.list, nice_shaped nn.list, _, rfl, ?_⟩
    rw [SeqAt.eqv_refl _ nn.list.cl]
    refine iteF ?_
    refine ⟨.ref a.m, rfl, a.m, .ref a.lo, rfl, hM1.g0, a.lo, rfl, ⟨_, .inl (.inl hM1.ho)⟩, ?_⟩
    refine for_it (walk_list (K := K) (a := a.lo) (xs := zs.map V.str)) (fun i σ H' => ∃ y2 y3 y4, σ = [some (.ref a.m), some (.ref b), y2, y3, y4] ∧ Same H H') ⟨_, _, _, rfl, s1⟩ (fun i σ H' _ hP => ?_) (fun i x σ H2' H2 hi hP hY => ?_) (fun σ H' hP => ?_)
    · obtain ⟨_, _, _, _, s2⟩ := hP
      exact .inl (.inl (s2 _ _ hM.ho))
    · obtain ⟨rfl, hx⟩ := hY
      obtain ⟨y2, y3, y4, rfl, s2⟩ := hP
      rw [List.length_map] at hi
      have exx : x = .str zs[i] := by
        rw [List.getElem?_map, List.getElem?_eq_getElem hi] at hx
        exact (Option.some.inj hx).symm
      subst exx
      have ej : zs[i]? = some zs[i] := List.getElem?_eq_getElem hi
      obtain ⟨gv, f', l', r, xs, eg, ef, el, er, hr0, hd0⟩ := hM.at_ ej
      have hl' := g.nt l' (List.mem_of_getElem? el)
      have ll' := g.rows l' (List.mem_of_getElem? el)
      have gl := g.left el ef
      have lp : (leftN l' f').length ≤ 60 := Nat.le_trans (leftN_len _ _) ll'
      obtain ⟨bg, bff, bc⟩ := gb.bigs g ej eg ef el
      generalize hc : cashM (bkOf zs D) i zs[i] = cc at bc
      generalize hpl : leftN l' f' = pl at gl lp
      have noB : ∀ {m : Str}, ((m == "names") || (m == "gifts") || (m == "stacks") || (m == "drops")) = false → (bf (.ref tn) wg ws wd).lookup m = none := fun h => bf_no (NoF.mk' h)
      -- told
      refine ⟨.ref b, rfl, b, dx, _, rfl, s2 _ _ e, noB (by decide +kernel), .str zs[i], rfl, b, _, _, i, gv, rfl, book_same hb s2, nz, ej, eg, fun H3 s3 => ?_⟩
      have s23 := s2.trans s3
      refine ⟨.ref b, rfl, b, dx, _, rfl, s23 _ _ e, noB (by decide +kernel), .str zs[i], rfl, b, _, _, i, f', rfl, book_same hb s23, nz, ej, ef, fun H4 s4 => ?_⟩
      have s24 := s23.trans s4
      refine ⟨.ref b, rfl, b, dx, _, rfl, s24 _ _ e, noB (by decide +kernel), .str zs[i], rfl, b, _, _, i, rfl, book_same hb s24, okb, ej, fun H5 s5 => ?_⟩
      rw [hc]
      have s25 := s24.trans s5
      refine ⟨.ref b, rfl, b, dx, _, rfl, s25 _ _ e, noB (by decide +kernel), .str zs[i], rfl, b, _, _, i, l', f', rfl, book_same hb s25, nz, ej, el, ef, by omega, fun r1 x1 H6 s6 nr1 hr1' d1 => ?_⟩
      have s26 := s25.trans s6
      refine ⟨.ref b, rfl, b, dx, _, rfl, s26 _ _ e, noB (by decide +kernel), .str zs[i], rfl, b, _, _, i, l', f', rfl, book_same hb s26, nz, ej, el, ef, by omega, fun r2 x2 H7 s7 nr2 hr2' d2 => ⟨by show 5 ≤ sizeLine; decide, fun t1 nt1 => ?_⟩⟩
      rw [hpl] at d2
      have s8 := same_upd (o := .lst [V.int gv, V.int f', V.int cc, V.ref r1, V.ref r2]) nt1
      have s28 := s26.trans (s7.trans s8)
      generalize hH8 : upd H7 t1 (.lst [V.int gv, V.int f', V.int cc, V.ref r1, V.ref r2]) = H8 at s8 s28
      have ht1 : H8 t1 = some (.lst [V.int gv, V.int f', V.int cc, V.ref r1, V.ref r2]) := by
        rw [← hH8, upd_same]
      have hM8 := model_same hM s28
      -- wanted
      refine ⟨.ref a.m, rfl, a.m, .ref a.dg, rfl, hM8.g1, .str zs[i], rfl, a.dg, .int gv, rfl, hM8.gg ej eg, .ref a.m, rfl, a.m, .ref a.df, rfl, hM8.g2, .str zs[i], rfl, a.df, .int f', rfl, hM8.gf ej ef, .ref a.m, rfl, .str zs[i], rfl, a, D, zs, _, i, rfl, hM8, ej, g.rows, fun H9 s9 => ?_⟩
      have ec2 : cashD D i zs[i] = cc := by
        rw [← cash_eq zs]
        exact hc
      rw [ec2]
      have s29 := s28.trans s9
      have hM9 := model_same hM s29
      refine ⟨.ref a.m, rfl, a.m, .ref a.dn, rfl, hM9.g3, .str zs[i], rfl, a.dn, .ref r, rfl, hM9.gn ej er, by show 4 ≤ sizeLine; decide, fun t2 nt2 => ?_⟩
      have s10 := same_upd (o := .lst [V.int gv, V.int f', V.int cc, V.ref r]) nt2
      generalize hH10 : upd H9 t2 (.lst [V.int gv, V.int f', V.int cc, V.ref r]) = H10 at s10
      have ht2 : H10 t2 = some (.lst [V.int gv, V.int f', V.int cc, V.ref r]) := by
        rw [← hH10, upd_same]
      have s210 := s29.trans s10
      have dTold : Dt K H10 (.ref t1) (toldD gv f' cc l' pl) := .lst (.inl (.inl (s10 _ _ (s9 _ _ ht1)))) (.cons (.int _) (.cons (.int _) (.cons (.int _) (.cons (.lst (.inl (.inl ((s9.trans s10) _ _ (s8 _ _ (s7 _ _ hr1'))))) (DtAll.same ((s7.trans s8).trans (s9.trans s10)) _ d1))
        (.cons (.lst (.inl (.inl ((s9.trans s10) _ _ (s8 _ _ hr2')))) (DtAll.same (s8.trans (s9.trans s10)) _ d2)) .nil)))))
      have nt := nice_told nz.nm bg bff bc hl' ll' gl lp
      have dp20 : (toldD gv f' cc l' pl).depth ≤ 20 := by
        have := nt.dp
        omega
      refine ⟨.ref t1, rfl, .ref t1, toldD gv f' cc l' pl, rfl, dTold, nt.sh, .inl nt.nd, dp20, nice_fits nt (Nat.le_refl _), ?_⟩
      have hM10 := model_same hM s210
      refine ⟨.ref t2, rfl, .ref a.m, rfl, .str zs[i], rfl, a, D, zs, _, i, l', f', rfl, hM10, ej, el, ef, by omega, fun m mx H11 s11 nm hm dm => ⟨by show 1 ≤ sizeLine; decide, fun t3 nt3 => ?_⟩⟩
      rw [hpl] at dm
      have s12 := s11.trans (same_upd (o := .lst [V.ref m]) nt3)
      refine ⟨t2, t3, _, _, rfl, rfl, s12 _ _ ht2, upd_same, by show 4 + 1 ≤ sizeLine; decide, fun t4 nt4 => ?_⟩
      have s13 := same_upd (o := .lst ([V.int gv, V.int f', V.int cc, V.ref r] ++ [V.ref m])) nt4
      have s1013 := s12.trans s13
      have hMr : ∀ {H' : Hp}, Same H H' → Dt K H' (.ref r) (.list (notesD l')) := fun {H'} sm => .lst (.inl (.inl (sm _ _ hr0))) (DtAll.same sm _ hd0)
      have dW : Dt K (upd (upd H11 t3 (.lst [V.ref m])) t4 (.lst ([V.int gv, V.int f', V.int cc, V.ref r] ++ [V.ref m]))) (.ref t4) (toldD gv f' cc l' pl) := .lst (.inl (.inl upd_same)) (.cons (.int _) (.cons (.int _) (.cons (.int _) (.cons (hMr (s210.trans s1013))
        (.cons (.lst (.inl (.inl (s13 _ _ (same_upd nt3 _ _ hm)))) (DtAll.same ((same_upd nt3).trans s13) _ dm)) .nil)))))
      refine ⟨_, _, rfl, dW, nt.sh, .inl nt.nd, dp20, nice_fits nt (Nat.le_refl _), rfl, _, rfl, ?_⟩
      exact iteNS rfl ⟨_, _, _, rfl, s210.trans s1013⟩
    · obtain ⟨_, _, _, rfl, s2⟩ := hP
      exact q _ s2
end
end Rc

namespace Rc
open PySem PySem.Spec PyProof.Rows L2 RZ
def mostW (zs : List Str) (D : Md) (wd z : Str) : Int := if wd = "pay" then mostP (bkOf zs D) (zs.idxOf z) z else mostC zs (duesM (bkOf zs D)) z
theorem pay_ne_clear : ¬ (V.str ("clear" : Str)) = V.str ("pay" : Str) := fun e => absurd (V.str.inj e) (by decide +kernel)
theorem clear_ne : ¬ ("clear" : Str) = "pay" := by decide +kernel
def stepW (p : Str × Str) : PyData := .tuple [.str p.1, .str p.2]
theorem tup_stepW (p : Str × Str) : tupD (stepW p) = true := by simp [stepW, tupD, tupDs]
def kindsW : List Str := ["pay", "clear"]
def stepsAt (zs : List Str) (D : Md) (z : Str) : List (Str × Str) := (kindsW.filter fun k => decide (0 < mostW zs D k z)).map fun k => (k, z)
def stepsW (zs : List Str) (D : Md) : List (Str × Str) := zs.flatMap (stepsAt zs D)
def fallAll (zs : List Str) (D : Md) (r : List Str) (m : Int) : Md := r.foldl (fun D y => fellD D (zs.idxOf y) (D.fallen.getD (zs.idxOf y) 0 + m)) D
theorem steps_len (zs : List Str) (D : Md) (z : Str) : (stepsAt zs D z).length ≤ 2 := by
  unfold stepsAt
  rw [List.length_map]
  exact List.length_filter_le _ _
end Rc

namespace Rc
open PySem PySem.Spec PyProof.Rows L2 RZ
/-! ### most_of as it is called -/
def gApp (us ws : List Value) : List Value := us ++ ws
def gAppV (vs zs : List V) : List V := vs ++ zs
abbrev psMost : List Str := ["book", "who", "word"]
structure HasMost (P : Program) (w : World) (K : PySem.W.Frag) (mg : Str → Option Value) (base : Heap) (k : Nat) (sp : Sp) (f : Addr) (fd : FuncData) : Prop where
  ok : FnOk P w K mg base CX0 k f fd psMost sp
  g : mg "most_of" = some (.ref f)
  kp : PySem.W.keepIn K (.ref f) = true
  kb : KBn K fd psMost 2 ["word"] gApp gAppV
  db : ∃ ds, Vals [V.str "pay"] ds ∧ Binds K fd psMost ds
theorem kbMost {K : PySem.W.Frag} {nm q : Str} {st : Stmt} {f : Addr} {fd : FuncData} (F : Fun K nm q st f fd)
    (h : ∀ (kV doc pm : Value) (an : Option Addr) (cdv ct u v w : Value), bindArgs (PySem.W.fnOf nm q (defArgs st) (defBody st) (defScope st) .none kV doc pm an cdv ct) ⟨[u, v], [((("word" : Str)), w)]⟩ = pure [((("book" : Str)), u), ((("who" : Str)), v), ((("word" : Str)), w)]) : KBn K fd psMost 2 ["word"] gApp gAppV := by
  obtain ⟨oc, od, kV, doc, pm, an, cdv, ct, osl, rfl, lk, hcd⟩ := F.ex
  exact ⟨fun s us ws _ h1 h2 => match us, ws, h1, h2 with | [u, v], [w], _, _ => .of_eq (h kV doc pm an cdv ct u v w), fun a b => a.append b⟩
/-- a def with one keyword of its own, of which the default is known -/
def DefKOf {K : PySem.W.Frag} {h : Heap} (_ : K.In h) (mg : Str → Option Value) (nm : Str) (st : Stmt) (kw : Str) (v : V) : Prop := ∃ f fd, Fun K nm nm st f fd ∧ FunD K nm nm (defArgs st) (defBody st) (defScope st) [] [(kw, v)] f fd ∧ mg nm = some (.ref f)
theorem mkDefK {K : PySem.W.Frag} {h : Heap} {mg : Str → Option Value} (X : K.In h) (G : h.Ns mainGlobals mg) {nm kw : Str} {st : Stmt} {f Dk : Addr} {oc : Value} {od an : Option Addr} {osl : Array (Option Value)} {doc pm cdv ct u : Value} {v : V}
    (a : PySem.W.nsIn K mainGlobals nm = some (some (.ref f)))
    (l : K.lookup f = some ⟨oc, od, .func (PySem.W.fnOf nm nm (defArgs st) (defBody st) (defScope st) .none (.ref Dk) doc pm an cdv ct), osl⟩)
    (c : PySem.W.codeIn K cdv nm = true) (k : PySem.W.keepIn K (.ref f) = true) (n : PySem.W.nsIn K Dk kw = some (some u)) (r : RelV v u) : DefKOf X mg nm st kw v :=
  ⟨f, _, fun_mk l c k, ⟨⟨_, _, _, _, _, _, _, _, _, _, rfl, l, c, .inl ⟨rfl, rfl⟩, .inr ⟨Dk, rfl, fun q hq => by rw [List.mem_singleton.mp hq]; exact ⟨u, n, r⟩⟩⟩, k⟩, PySem.W.mg_of X G a⟩
/-- a table of two defs, by their names -/
def TabOf {K : PySem.W.Frag} {h : Heap} (_ : K.In h) (w : World) (mg : Str → Option Value) (nm np nc : Str) : Prop := ∃ fp fc, TabAt K w mg nm fp fc ∧ mg np = some (.ref fp) ∧ mg nc = some (.ref fc)
theorem mkTab {K : PySem.W.Frag} {h : Heap} {mg : Str → Option Value} {w : World} (X : K.In h) (G : h.Ns mainGlobals mg) {nm np nc : Str} {d fp fc : Addr} {es : Array DictEntry} {n : Nat}
    (a : PySem.W.nsIn K mainGlobals nm = some (some (.ref d))) (l : K.lookup d = some ⟨.type "dict", none, .dict es n, #[]⟩) (k : PySem.W.KeysLit w.params es.toList) (low : (d == sysModules) = false)
    (p1 : PySem.W.nsIn K d "pay" = some (some (.ref fp))) (c1 : PySem.W.nsIn K d "clear" = some (some (.ref fc))) (p2 : PySem.W.nsIn K mainGlobals np = some (some (.ref fp))) (c2 : PySem.W.nsIn K mainGlobals nc = some (some (.ref fc))) : TabOf X w mg nm np nc :=
  ⟨fp, fc, ⟨d, es, n, PySem.W.mg_of X G a, ⟨l, k, low⟩, p1, c1⟩, PySem.W.mg_of X G p2, PySem.W.mg_of X G c2⟩
theorem mkClsE {K : PySem.W.Frag} {C : Addr} (a : PySem.W.findIn K (.ref C) "__class__" = some (some (.builtin "object.__class__"))) (n : PySem.W.specialIn K (.builtin "object.__class__") "__get__" = some (some (.builtin "getset_descriptor.__get__")))
    (t : PySem.W.takesIn K (.builtin "object.__class__") = some true) (m : PySem.W.mroIn K C (.type "object") = some true) (e : PySem.W.findIn K (.ref C) "__ne__" = some (some (.builtin "object.__ne__"))) : ClsE K C := ⟨a, n, t, m, e⟩
end Rc

namespace Rc
open PySem PySem.Spec PyProof.Rows L2 RZ
/-! ### a ring goes round -/
theorem chain_tail {nx : Str → Option Str} {x : Str} {r : List Str} (c : Chain nx (x :: r)) : Chain nx r := fun i a b h1 h2 => c (i + 1) a b (by simpa using h1) (by simpa using h2)
theorem chain_map {nx : Str → Option Str} : ∀ (r : List Str) (x : Str), Chain nx (x :: r) → (x :: r).map nx = r.map some ++ [nx (r.getLastD x)]
  | [], x, _ => rfl
  | y :: r, x, c => by
    have ih := chain_map r y (chain_tail c)
    have e : nx x = some y := c 0 x y rfl rfl
    rw [List.map_cons, ih, e, List.map_cons]
    show some y :: (r.map some ++ [nx (r.getLastD y)]) = some y :: (r.map some) ++ [nx ((y :: r).getLastD x)]
    have : (y :: r).getLastD x = r.getLastD y := by cases r <;> simp [List.getLastD]
    rw [this]
    rfl
theorem ring_perm {zs : List Str} {nx : Str → Option Str} {z : Str} {r : List Str} (ld : Leads zs nx) (hz : z ∈ zs) (h : ringM zs nx z = some r) : (r.map nx).Perm (r.map some) ∧ r.Nodup ∧ (∀ y ∈ r, y ∈ zs) ∧ r ≠ [] := by
  have en := trail_ended ld hz
  have ch := trailM_chain zs nx z
  unfold ringM at h
  split at h
  · rename_i hl
    have e := Option.some.inj h
    subst e
    generalize hi : (trailM zs nx z).idxOf (firstM zs (trailM zs nx z)) = i
    obtain ⟨tl, eT⟩ := en.first
    have eL : tl.getLastD z = lastM zs nx z := by
      unfold lastM
      rw [eT]
      cases tl with
      | nil => rfl
      | cons a b => simp
    have p1 : ((trailM zs nx z).drop i ++ (trailM zs nx z).take i).Perm (trailM zs nx z) := by
      have := List.perm_append_comm (l₁ := (trailM zs nx z).drop i) (l₂ := (trailM zs nx z).take i)
      rw [List.take_append_drop] at this
      exact this
    have p2 : ((trailM zs nx z).map nx).Perm ((trailM zs nx z).map some) := by
      rw [eT] at ch ⊢
      rw [chain_map tl z ch, eL, hl, List.map_cons]
      exact List.perm_append_comm
    refine ⟨(p1.map nx).trans (p2.trans (p1.map some).symm), p1.symm.nodup en.nd, fun y hy => en.sub y (p1.mem_iff.mp hy), fun c => ?_⟩
    have := p1.length_eq
    rw [c, eT] at this
    simp at this
  · cases h
theorem ring_count {nx : Str → Option Str} {r : List Str} (p : (r.map nx).Perm (r.map some)) (nd : r.Nodup) (y : Str) : (r.filter fun x => decide (nx x = some y)).length = if y ∈ r then 1 else 0 := by
  have h1 := p.count_eq (some y)
  have h2 : (r.map nx).count (some y) = (r.filter fun x => decide (nx x = some y)).length := by
    rw [List.count, List.countP_map, List.countP_eq_length_filter]
    refine congrArg List.length (List.filter_congr fun x _ => ?_)
    show (nx x == some y) = decide (nx x = some y)
    by_cases h : nx x = some y
    · rw [h]
      simp
    · rw [decide_eq_false h]
      exact beq_false_of_ne h
  have h3 : (r.map some).count (some y) = r.count y := by
    rw [List.count, List.countP_map, List.count]
    congr 1
  rw [← h2, h1, h3]
  exact nd.count
/-! ### falling of several -/
theorem fell_cash {zs : List Str} {D : Md} {j : Nat} {t : Str} {l r : List (Str × Int)} {f m b : Int} (hn : ∀ n ∈ l, 1 ≤ n.2) (f0 : 0 ≤ f) (el : D.notes[j]? = some l) (ef : D.fallen[j]? = some f) (e : leftN l f = (t, b) :: r) (m0 : 0 ≤ m) (mb : m ≤ b)
    (i : Nat) (y : Str) : cashM (bkOf zs (fellD D j (f + m))) i y = cashM (bkOf zs D) i y + (if t = y then m else 0) - (if i = j then m else 0) := by
  obtain ⟨_, h2⟩ := fall_one hn f0 m0 mb e
  have e1 : fallTo (bkOf zs (fellD D j (f + m))) y = fallTo (bkOf zs D) y + (if t = y then m else 0) := by
    show ((D.notes.zip (D.fallen.set j (f + m))).map fun p => sumTo y (goneN p.1 p.2)).sum = ((D.notes.zip D.fallen).map fun p => sumTo y (goneN p.1 p.2)).sum + _
    rw [sum_zip_set (α := Nat) (fun p => sumTo y (goneN p.1 p.2)) D.notes D.fallen j l f (f + m) el ef]
    show _ + (sumTo y (goneN l (f + m)) - sumTo y (goneN l f)) = _
    rw [h2 y]
    omega
  have e2 : (bkOf zs (fellD D j (f + m))).drops.getD i 0 = (bkOf zs D).drops.getD i 0 + (if i = j then m else 0) := by
    show (D.fallen.set j (f + m)).getD i 0 = D.fallen.getD i 0 + _
    by_cases h : i = j
    · subst h
      rw [if_pos rfl, getD_of ef]
      have hj : i < D.fallen.length := (List.getElem?_eq_some_iff.mp ef).1
      rw [getD_of (List.getElem?_set_self hj)]
    · rw [if_neg h, List.getD_eq_getElem?_getD, List.getElem?_set_ne (fun c => h c.symm), List.getD_eq_getElem?_getD]
      omega
  unfold cashM
  rw [e1, e2]
  show (bkOf zs D).gifts.getD i 0 + _ - _ = _
  omega
theorem fallAll_cons (zs : List Str) (D : Md) (x : Str) (r : List Str) (m : Int) : fallAll zs D (x :: r) m = fallAll zs (fellD D (zs.idxOf x) (D.fallen.getD (zs.idxOf x) 0 + m)) r m := rfl
theorem fallAll_keeps (zs : List Str) (m : Int) : ∀ (r : List Str) (D : Md), (fallAll zs D r m).given = D.given ∧ (fallAll zs D r m).notes = D.notes ∧ (fallAll zs D r m).fallen.length = D.fallen.length
  | [], _ => ⟨rfl, rfl, rfl⟩
  | x :: r, D => by
    rw [fallAll_cons]
    obtain ⟨a, b, c⟩ := fallAll_keeps zs m r (fellD D (zs.idxOf x) (D.fallen.getD (zs.idxOf x) 0 + m))
    refine ⟨a, b, c.trans ?_⟩
    show (D.fallen.set _ _).length = _
    rw [List.length_set]
theorem fallAll_at {zs : List Str} (nd : zs.Nodup) (m : Int) : ∀ (r : List Str) (D : Md), r.Nodup → (∀ y ∈ r, y ∈ zs) → D.fallen.length = zs.length → ∀ (i : Nat) (y : Str) (f : Int), zs[i]? = some y → D.fallen[i]? = some f →
    (fallAll zs D r m).fallen[i]? = some (f + if y ∈ r then m else 0)
  | [], D, _, _, _, i, y, f, _, ef => by
    show D.fallen[i]? = _
    rw [ef]
    simp
  | x :: r, D, nr, sub, lf, i, y, f, ei, ef => by
    obtain ⟨n1, n2⟩ := List.nodup_cons.mp nr
    rw [fallAll_cons]
    have hx := sub x List.mem_cons_self
    have ex := idx_get hx
    have hxl : zs.idxOf x < D.fallen.length := by
      rw [lf]
      exact List.idxOf_lt_length_of_mem hx
    have ih := fallAll_at nd m r (fellD D (zs.idxOf x) (D.fallen.getD (zs.idxOf x) 0 + m)) n2 (fun y hy => sub y (List.mem_cons_of_mem _ hy)) (by show (D.fallen.set _ _).length = _; rw [List.length_set]; exact lf) i y
    by_cases h : i = zs.idxOf x
    · subst h
      have exy : x = y := Option.some.inj (ex.symm.trans ei)
      subst exy
      have e2 : (fellD D (zs.idxOf x) (D.fallen.getD (zs.idxOf x) 0 + m)).fallen[zs.idxOf x]? = some (f + m) := by
        show (D.fallen.set _ _)[_]? = _
        rw [List.getElem?_set_self hxl, getD_of ef]
      rw [ih _ ei e2, if_neg n1, if_pos List.mem_cons_self]
      congr 1
      omega
    · have hne : ¬ y = x := fun c => h (by
        rw [← c]
        obtain ⟨hi, e⟩ := List.getElem?_eq_some_iff.mp ei
        rw [← e]
        exact (nd.idxOf_getElem i hi).symm)
      have e2 : (fellD D (zs.idxOf x) (D.fallen.getD (zs.idxOf x) 0 + m)).fallen[i]? = some f := by
        show (D.fallen.set _ _)[_]? = _
        rw [List.getElem?_set_ne (fun c => h c.symm)]
        exact ef
      rw [ih _ ei e2]
      congr 1
      have : (y ∈ x :: r) ↔ y ∈ r := by
        rw [List.mem_cons]
        exact ⟨fun c => c.resolve_left hne, .inr⟩
      simp only [this]
/-- each of some persons has a due note of at least so much -/
def DuesOf (zs : List Str) (D : Md) (nx : Str → Option Str) (m : Int) (r : List Str) : Prop := ∀ x ∈ r, ∃ l f t b rest, D.notes[zs.idxOf x]? = some l ∧ D.fallen[zs.idxOf x]? = some f ∧ (∀ n ∈ l, 1 ≤ n.2) ∧ 0 ≤ f ∧ leftN l f = (t, b) :: rest ∧ m ≤ b ∧ nx x = some t
theorem fallAll_cash {zs : List Str} (nd : zs.Nodup) {nx : Str → Option Str} {m : Int} (m0 : 0 ≤ m) : ∀ (r : List Str) (D : Md), r.Nodup → (∀ y ∈ r, y ∈ zs) → DuesOf zs D nx m r → ∀ (i : Nat) (y : Str), zs[i]? = some y →
    cashM (bkOf zs (fallAll zs D r m)) i y = cashM (bkOf zs D) i y + m * ((r.filter fun x => decide (nx x = some y)).length : Int) - (if y ∈ r then m else 0)
  | [], D, _, _, _, i, y, _ => by
    show cashM (bkOf zs D) i y = _
    simp
  | x :: r, D, nr, sub, du, i, y, ei => by
    obtain ⟨n1, n2⟩ := List.nodup_cons.mp nr
    rw [fallAll_cons]
    obtain ⟨l, f, t, b, rest, el, ef, hn, f0, eL, mb, ex⟩ := du x List.mem_cons_self
    rw [getD_of ef]
    have du2 : DuesOf zs (fellD D (zs.idxOf x) (f + m)) nx m r := fun x' hx' => by
      obtain ⟨l2, f2, t2, b2, rest2, el2, ef2, hn2, f02, eL2, mb2, ex2⟩ := du x' (List.mem_cons_of_mem _ hx')
      have hne : zs.idxOf x ≠ zs.idxOf x' := fun c => by
        have e1 := idx_get (sub x List.mem_cons_self)
        have e2 := idx_get (sub x' (List.mem_cons_of_mem _ hx'))
        rw [c, e2] at e1
        exact n1 (Option.some.inj e1 ▸ hx')
      refine ⟨l2, f2, t2, b2, rest2, el2, ?_, hn2, f02, eL2, mb2, ex2⟩
      show (D.fallen.set _ _)[_]? = _
      rw [List.getElem?_set_ne hne]
      exact ef2
    rw [fallAll_cash nd m0 r _ n2 (fun y hy => sub y (List.mem_cons_of_mem _ hy)) du2 i y ei, fell_cash hn f0 el ef eL m0 mb i y]
    have hix : (i = zs.idxOf x) ↔ y = x := by
      obtain ⟨hi, e⟩ := List.getElem?_eq_some_iff.mp ei
      refine ⟨fun c => ?_, fun c => ?_⟩
      · have := idx_get (sub x List.mem_cons_self)
        rw [← c, ei] at this
        exact Option.some.inj this
      · rw [← c, ← e]
        exact (nd.idxOf_getElem i hi).symm
    rw [List.filter_cons, ex]
    have c1 : (if t = y then m else 0) + m * ((r.filter fun x => decide (nx x = some y)).length : Int) = m * (((if decide (some t = some y) = true then x :: r.filter fun x => decide (nx x = some y) else r.filter fun x => decide (nx x = some y)).length : Nat) : Int) := by
      by_cases h : t = y
      · rw [if_pos h, if_pos (decide_eq_true (congrArg some h)), List.length_cons, Int.natCast_add, Int.mul_add]
        simp
        omega
      · rw [if_neg h, if_neg (by simp [h])]
        omega
    have c2 : (if i = zs.idxOf x then m else 0) + (if y ∈ r then m else 0) = (if y ∈ x :: r then m else 0) := by
      by_cases h : y = x
      · subst h
        rw [if_pos (hix.mpr rfl), if_neg n1, if_pos List.mem_cons_self]
        omega
      · rw [if_neg (fun c => h (hix.mp c))]
        have : (y ∈ x :: r) ↔ y ∈ r := by
          rw [List.mem_cons]
          exact ⟨fun c => c.resolve_left h, .inr⟩
        simp only [this]
        omega
    omega
theorem moreAt_all (m : Int) (y : Str) : ∀ r : List Str, moreAt (r.map fun x => (x, m)) y = if y ∈ r then m else 0
  | [] => rfl
  | x :: r => by
    have ih := moreAt_all m y r
    unfold moreAt at ih ⊢
    rw [List.map_cons]
    by_cases h : x = y
    · rw [List.find?_cons_of_pos (by simp [h]), if_pos (by rw [h]; exact List.mem_cons_self)]
      rfl
    · rw [List.find?_cons_of_neg (by simp [h]), ih]
      have : (y ∈ x :: r) ↔ y ∈ r := by
        rw [List.mem_cons]
        exact ⟨fun c => c.resolve_left fun e => h e.symm, .inr⟩
      simp only [this]
theorem fallAll_eq {zs : List Str} {D : Md} {r : List Str} {m : Int} (nd : zs.Nodup) (lf : D.fallen.length = zs.length) (nr : r.Nodup) (sub : ∀ y ∈ r, y ∈ zs) : fallM (bkOf zs D) (r.map fun x => (x, m)) = bkOf zs (fallAll zs D r m) := by
  obtain ⟨a, b, c⟩ := fallAll_keeps zs m r D
  have e : ((zs.zip D.fallen).map fun p => p.2 + moreAt (r.map fun x => (x, m)) p.1) = (fallAll zs D r m).fallen := by
    refine List.ext_getElem? fun i => ?_
    rw [List.getElem?_map]
    by_cases hi : i < zs.length
    · have hf : i < D.fallen.length := by omega
      rw [List.getElem?_zip_eq_some (z := (zs[i], D.fallen[i])) |>.mpr ⟨List.getElem?_eq_getElem hi, List.getElem?_eq_getElem hf⟩, fallAll_at nd m r D nr sub lf i zs[i] D.fallen[i] (List.getElem?_eq_getElem hi) (List.getElem?_eq_getElem hf)]
      show some (D.fallen[i] + moreAt (r.map fun x => (x, m)) zs[i]) = _
      rw [moreAt_all]
    · rw [List.getElem?_eq_none (by rw [List.length_zip]; omega), List.getElem?_eq_none (by omega)]
      rfl
  show Bk.mk zs D.given D.notes ((zs.zip D.fallen).map fun p => p.2 + moreAt (r.map fun x => (x, m)) p.1) = Bk.mk zs (fallAll zs D r m).given (fallAll zs D r m).notes (fallAll zs D r m).fallen
  rw [e, a, b]
/-- a ring that is cleared -/
theorem clear_ok {zs : List Str} {D : Md} {z : Str} {m : Int} {r : List Str} (g : Gs zs D) (gb : Gb D) (hz : z ∈ zs) (m1 : 1 ≤ m) (hR : ringM zs (nxD zs D) z = some r) (mm : m ≤ leastI (r.map (amtAt zs (duesM (bkOf zs D))))) :
    Gs zs (fallAll zs D r m) ∧ Gb (fallAll zs D r m) ∧ FallOk (bkOf zs D) (r.map fun x => (x, m)) ∧ r.Nodup ∧ (∀ y ∈ r, y ∈ zs) := by
  have wk := g.walks
  obtain ⟨p, nr, sub, ne⟩ := ring_perm wk.ld hz hR
  have rd := ring_due wk.ld hz hR
  have du : DuesOf zs D (nxD zs D) m r := fun x hx => by
    obtain ⟨hxz, t, ht⟩ := rd x hx
    have hj : zs.idxOf x < zs.length := List.idxOf_lt_length_of_mem hxz
    have h1 : zs.idxOf x < D.notes.length := by rw [g.ln]; exact hj
    have h2 : zs.idxOf x < D.fallen.length := by rw [g.lf]; exact hj
    have el := List.getElem?_eq_getElem h1
    have ef := List.getElem?_eq_getElem h2
    have hnx : nxD zs D x = some t := ht
    rw [nxD_at g.nz.nd (idx_get hxz) el ef] at hnx
    cases hL : leftN D.notes[zs.idxOf x] D.fallen[zs.idxOf x] with
    | nil =>
      rw [hL] at hnx
      cases hnx
    | cons n rest =>
      obtain ⟨t', b⟩ := n
      rw [hL] at hnx
      have e1 : t' = t := Option.some.inj hnx
      subst e1
      have ea : amtAt zs (duesM (bkOf zs D)) x = b := by
        unfold amtAt
        have eo : (duesM (bkOf zs D)).getD (zs.idxOf x) none = (leftN D.notes[zs.idxOf x] D.fallen[zs.idxOf x]).head? := getD_of (dues_at (M := bkOf zs D) el ef)
        rw [eo, hL]
        rfl
      have hb : m ≤ b := by
        have := (least_mem (ns := r.map (amtAt zs (duesM (bkOf zs D)))) (by simpa using ne)).2 _ (List.mem_map.mpr ⟨x, hx, rfl⟩)
        omega
      exact ⟨_, _, t', b, rest, el, ef, fun n hn => (g.nt _ (List.getElem_mem h1) n hn).2.1, g.fl _ (List.getElem_mem h2), hL, hb, ht⟩
  obtain ⟨ka, kb, kc⟩ := fallAll_keeps zs m r D
  have cs : ∀ (i : Nat) (y : Str), zs[i]? = some y → 0 ≤ cashM (bkOf zs (fallAll zs D r m)) i y := fun i y ei => by
    rw [fallAll_cash g.nz.nd (by omega) r D nr sub du i y ei, ring_count p nr y]
    have c0 := g.cs i y ei
    by_cases h : y ∈ r
    · rw [if_pos h, if_pos h]
      simp
      omega
    · rw [if_neg h, if_neg h]
      simp
      omega
  have at_ : ∀ (i : Nat) (f' : Int), (fallAll zs D r m).fallen[i]? = some f' → ∃ y f, zs[i]? = some y ∧ D.fallen[i]? = some f ∧ f' = f + if y ∈ r then m else 0 := fun i f' e => by
    have hi : i < (fallAll zs D r m).fallen.length := (List.getElem?_eq_some_iff.mp e).1
    have hif : i < D.fallen.length := by omega
    have hiz : i < zs.length := by
      rw [← g.lf]
      exact hif
    have := fallAll_at g.nz.nd m r D nr sub g.lf i zs[i] D.fallen[i] (List.getElem?_eq_getElem hiz) (List.getElem?_eq_getElem hif)
    rw [e] at this
    exact ⟨_, _, List.getElem?_eq_getElem hiz, List.getElem?_eq_getElem hif, Option.some.inj this⟩
  have fw : ∀ (i : Nat) (y : Str) (l : List (Str × Int)) (f : Int), zs[i]? = some y → D.notes[i]? = some l → D.fallen[i]? = some f → y ∈ r → f + m ≤ wholeN l := fun i y l f ei el ef hy => by
    obtain ⟨l2, f2, t2, b2, rest2, el2, ef2, hn2, f02, eL2, mb2, _⟩ := du y hy
    have e : zs.idxOf y = i := by
      obtain ⟨hi, e⟩ := List.getElem?_eq_some_iff.mp ei
      rw [← e]
      exact g.nz.nd.idxOf_getElem i hi
    rw [e, el] at el2
    rw [e, ef] at ef2
    have e1 := Option.some.inj el2
    have e2 := Option.some.inj ef2
    subst e1 e2
    exact (fall_one hn2 f02 (by omega) mb2 eL2).1
  refine ⟨⟨g.nz, by rw [kb]; exact g.nt, fun x hx => ?_, by rw [kb]; exact g.my, by rw [ka]; exact g.lg, by rw [kc]; exact g.lf, by rw [kb]; exact g.ln, cs⟩, ⟨by rw [ka]; exact gb.gv, fun i l f' el' ef' => ?_⟩, ⟨fun q hq => ?_, fun i y ei => ?_⟩, nr, sub⟩
  · obtain ⟨i, hi, e⟩ := List.getElem_of_mem hx
    obtain ⟨y, f, _, ef, e2⟩ := at_ i x (by rw [List.getElem?_eq_getElem hi, e])
    have f0 := g.fl f (List.mem_of_getElem? ef)
    rw [e2]
    split <;> omega
  · rw [kb] at el'
    obtain ⟨y, f, ei, ef, e2⟩ := at_ i f' ef'
    rw [e2]
    by_cases hy : y ∈ r
    · rw [if_pos hy]
      exact fw i y l f ei el' ef hy
    · rw [if_neg hy, Int.add_zero]
      exact gb.fw i l f el' ef
  · obtain ⟨x, hx, rfl⟩ := List.mem_map.mp hq
    obtain ⟨l, f, t, b, rest, el, ef, hn, f0, eL, mb, ex⟩ := du x hx
    exact ⟨_, l, f, idx_get (sub x hx), el, ef, by show 0 ≤ m; omega, (fall_one hn f0 (by omega) mb eL).1⟩
  · rw [fallAll_eq g.nz.nd g.lf nr sub]
    exact cs i y ei
end Rc

namespace Rc
open PySem PySem.Spec PyProof.Rows L2 RZ
theorem ring_least {M : Bk} (ok : M.Ok) (cl : Closed M) {z : Str} (hz : z ∈ M.names) {r : List Str} (h : ringM M.names (nxM M) z = some r) : r ≠ [] ∧ r.length ≤ 12 ∧ (∀ y ∈ r, y ∈ M.names ∧ ∃ x, nxM M y = some x) := by
  have wk := walks_of ok cl
  obtain ⟨_, nr, sub, ne⟩ := ring_perm wk.ld hz h
  exact ⟨ne, Nat.le_trans (nodup_le _ _ nr sub) wk.lz, ring_due wk.ld hz h⟩
structure ClearOk (M : Bk) (z : Str) (m : Int) (r : List Str) : Prop where
  ok : M.Ok
  cl : Closed M
  hz : z ∈ M.names
  m1 : 1 ≤ m
  ring : ringM M.names (nxM M) z = some r
  most : m ≤ leastI (r.map (amtAt M.names (duesM M)))
  nd : r.Nodup
  fo : FallOk M (r.map fun x => (x, m))
end Rc

namespace Rc
open PySem PySem.Spec PyProof.Rows L2 RZ
theorem moreK_dct (r : List Str) (m : Int) : moreK (r.map fun x => (x, m)) = dct r ((List.replicate r.length m).map V.int) := by
  induction r with
  | nil => rfl
  | cons x r ih =>
    show (Sum.inr x, V.int m) :: moreK (r.map fun x => (x, m)) = _
    rw [ih]
    rfl
theorem take_rep {α : Type} (r : List α) (m : Int) {i : Nat} (h : i < r.length) : (List.replicate (i + 1) m).map V.int = (List.replicate i m).map V.int ++ [.int m] := by
  rw [List.replicate_succ', List.map_append]
  rfl
section
variable {P : Program} {w : World} {K : PySem.W.Frag} {mg : Str → Option Value} {base : Heap}
/-! ### least_due -/
abbrev sLeD : Stmt := topS 37
abbrev nLeD : List Str := ["book", "ring", "who"]
theorem scLeD : FnScope nLeD ["book", "ring"] (defScope sLeD) := ⟨rfl, rfl, rfl, by decide +kernel, rfl, by decide +kernel, by decide +kernel⟩
def spLeD (K : PySem.W.Frag) (C : Addr) : Sp := fun vs H Q _ => ∃ (b a : Addr) (M : Bk) (r : List Str), vs = [.ref b, .ref a] ∧ BookAt K C H b M ∧ M.Ok ∧ H a = some (.lst (r.map V.str)) ∧ r ≠ [] ∧ r.length ≤ 12 ∧ (∀ y ∈ r, y ∈ M.names ∧ ∃ x, nxM M y = some x) ∧ ∀ H', Same H H' → Q (.int (leastI (r.map (amtAt M.names (duesM M))))) H'
theorem ok_leD {f f1 C : Addr} {fd fd1 : FuncData} (F : Fun K "least_due" "least_due" sLeD f fd) (B2 : Blt2 mg) (DU : Has P w K mg base 6 "due_of" ["book", "who"] (spDue K C) f1 fd1) : FnOk P w K mg base CX0 7 f fd ["book", "ring"] (spLeD K C) := by
  refine F.ok scLeD (fun vs H Q E h => ?_) (fun cdv A outer s H vs Q E hr h => ?_)
  · obtain ⟨_, _, _, _, rfl, _⟩ := h
    rfl
  · obtain ⟨b, a, M, r, rfl, hb, ok, ha, ne, lr, du, q⟩ := h
    refine ⟨_, pss_one (ps_ret (pe_callB (cr_min rfl) (by rfl) B2.min (by decide +kernel) (pa_cons
      (pe_lc (own := [("who", 2)]) (g := gName 2) (tt := tYes) rfl scLeD.nd (pi_list (pv 1)) (blkOk_by (N := nLeD) (sc := defScope sLeD) (own := [("who", 2)]) (by decide +kernel))
        (fun _ _ _ _ _ => pg_name (i := 2) scLeD.nd rfl (.inl rfl) (hf := .inr rfl)) (fun _ _ _ _ _ => pts_nil)
        (fun _ _ _ _ _ => pe_ix (ix_tupS (K := K) rfl) (pe_call DU.ok hr (by rfl) DU.g DU.kp DU.b .nil pass0 (pa_cons (pv 0) (pa_cons (pv 2) pa_nil))) pe_int (fun _ _ => rfl))) pa_nil))), ?_⟩
    refine ⟨.ref a, rfl, a, rfl, ⟨_, .inl (.inl ha)⟩, fun D0 nD0 => ?_⟩
    refine lc_it (walk_list (K := K) (a := a) (xs := r.map V.str)) (fun i H' => Same H H' ∧ H' D0 = some (.lst (((r.take i).map (amtAt M.names (duesM M))).map V.int))) ⟨same_upd nD0, upd_same⟩ (fun i H' _ hP => .inl (.inl (hP.1 _ _ ha)))
      (fun i x H1' H1 hi hP hY => ?_) (fun H1 hP => ?_)
    · obtain ⟨rfl, hx⟩ := hY
      rw [List.length_map] at hi
      have exx : x = .str r[i] := by
        rw [List.getElem?_map, List.getElem?_eq_getElem hi] at hx
        exact (Option.some.inj hx).symm
      subst exx
      obtain ⟨hy, x2, hx2⟩ := du _ (List.getElem_mem hi)
      refine ⟨rfl, .ref b, rfl, _, rfl, b, M, _, _, rfl, book_same hb hP.1, ok, idx_get hy, fun v H2 s2 dv => ?_⟩
      have hx3 : ((duesM M).getD (M.names.idxOf r[i]) none).map (·.1) = some x2 := hx2
      rcases due_inv dv with ⟨eo, _⟩ | ⟨n, ta, eo, rfl, qt⟩
      · rw [eo] at hx3
        cases hx3
      · have ea : amtAt M.names (duesM M) r[i] = n.2 := by
          unfold amtAt
          rw [eo]
        refine ⟨ta, _, 1, .int n.2, rfl, rfl, qt, rfl, _, s2 _ _ hP.2, ?_, fun c o ec => ?_, ?_⟩
        · rw [List.length_map, List.length_map, List.length_take]
          exact small1000 (by omega)
        · rw [upd_ne (ne_of_none ec nD0)]
          exact s2 _ _ (hP.1 c o ec)
        · rw [upd_same, take_succ hi, List.map_append, List.map_append, ← ea]
          rfl
    · obtain ⟨s1, hD0⟩ := hP
      rw [List.length_map, List.take_length] at hD0
      refine ⟨D0, _, rfl, .inl (.inl hD0), ?_, fun mn h1 h2 => ?_⟩
      · rw [List.length_map]
        exact List.length_pos_iff.mpr ne
      · rw [least_uniq h1 h2]
        exact q H1 s1
/-! ### clear_ring -/
abbrev sClR : Stmt := topS 39
abbrev nClR : List Str := ["book", "who", "amount", "ring", "most", "name"]
theorem scClR : FnScope nClR ["book", "who", "amount"] (defScope sClR) := ⟨rfl, rfl, rfl, by decide +kernel, rfl, by decide +kernel, by decide +kernel⟩
def spClR (K : PySem.W.Frag) (C : Addr) : Sp := fun vs H Q _ => ∃ (b : Addr) (M : Bk) (z : Str) (m : Int) (r : List Str), vs = [.ref b, .str z, .int m] ∧ BookAt K C H b M ∧ ClearOk M z m r ∧ ∀ b' H', Same H H' → H b' = none → BookAt K C H' b' (fallM M (r.map fun x => (x, m))) → Q (.ref b') H'
theorem ok_clR {f f1 f2 f3 f4 C : Addr} {fd fd1 fd2 fd3 fd4 : FuncData} (F : Fun K "clear_ring" "clear_ring" sClR f fd) (T : ClsF K C) (RO : Has P w K mg base 8 "ring_of" ["book", "who"] (spRgO K C) f1 fd1) (CA : Has P w K mg base 3 "check_amount" ["amount"] (spCheckA K) f2 fd2)
    (LD : Has P w K mg base 7 "least_due" ["book", "ring"] (spLeD K C) f3 fd3) (LF : HasM P w K mg base C 7 "let_fall" ["self", "more"] (spLetF K C) f4 fd4) : FnOk P w K mg base CX0 9 f fd ["book", "who", "amount"] (spClR K C) := by
  refine F.ok scClR (fun vs H Q E h => ?_) (fun cdv A outer s H vs Q E hr h => ?_)
  · obtain ⟨_, _, _, _, _, rfl, _⟩ := h
    rfl
  · obtain ⟨b, M, z, m, r, rfl, hb, co, q⟩ := h
    have hr3 := hr.mono (show 3 ≤ 8 by decide)
    have hr7 := hr.mono (show 7 ≤ 8 by decide)
    refine ⟨_, pss_cons (ps_set (i := 3) scClR.nd rfl (.inl rfl) (pe_call RO.ok hr (by rfl) RO.g RO.kp RO.b .nil pass0 (pa_cons (pv 0) (pa_cons (pv 1) pa_nil))))
      (pss_cons (ps_expr (pe_call CA.ok hr3 (by rfl) CA.g CA.kp CA.b .nil pass0 (pa_cons (pv 2) pa_nil)))
      (pss_cons (ps_if (pt_cmpR op_isN (pv 3) pe_non (nomark _)) pss_never pss_nil)
      (pss_cons (ps_set (i := 4) scClR.nd rfl (.inl rfl) (pe_call LD.ok hr7 (by rfl) LD.g LD.kp LD.b .nil pass0 (pa_cons (pv 0) (pa_cons (pv 3) pa_nil))))
      (pss_cons (ps_if (pt_cmpR op_gt (pv 2) (pv 4) (nomark _)) pss_never pss_nil)
      (pss_one (ps_ret (pe_meth (pv 0) T.cl LF.m LF.ok hr7 LF.b .nil pass0 (pa_cons
        (pe_dc (own := [("name", 5)]) (g := gName 5) (tt := tYes) rfl scClR.nd (pi_list (pv 3)) (blkOk_by (N := nClR) (sc := defScope sClR) (own := [("name", 5)]) (by decide +kernel))
          (fun _ _ _ _ _ => pg_name (i := 5) scClR.nd rfl (.inl rfl) (hf := .inr rfl)) (fun _ _ _ _ _ => pts_nil) (fun _ _ _ _ _ => pv 5) (fun _ _ _ _ _ => pv 2)) pa_nil)))))))), ?_⟩
    obtain ⟨h1, h2, h3⟩ := ring_least co.ok co.cl co.hz co.ring
    refine ⟨.ref b, rfl, .str z, rfl, b, M, z, rfl, hb, co.ok, co.cl, co.hz, fun v H1 s1 rv => ?_⟩
    rw [co.ring] at rv
    obtain ⟨a, rfl, na, ha⟩ := rv
    refine ⟨.int m, rfl, m, rfl, co.m1, fun H2 s2 => ⟨.ref a, rfl, rfl, _, rfl, ?_⟩⟩
    rw [decide_eq_false (fun c => by cases c)]
    have s12 := s1.trans s2
    have ha2 := s2 _ _ ha
    refine iteF ⟨.ref b, rfl, .ref a, rfl, b, a, M, r, rfl, book_same hb s12, co.ok, ha2, h1, h2, h3, fun H3 s3 => ⟨.int m, rfl, _, rfl, _, _, rfl, rfl, _, rfl, ?_⟩⟩
    rw [show decide (leastI (r.map (amtAt M.names (duesM M))) < m) = false from decide_eq_false (by have := co.most; omega)]
    have s13 := s12.trans s3
    have ha3 := s3 _ _ ha2
    have hb3 := book_same hb s13
    obtain ⟨dx, tn, on, wg, ws, wd, e, _⟩ := hb3.ex
    refine iteF ⟨.ref b, rfl, b, dx, _, rfl, e, bf_no (NoF.mk' (by decide +kernel)), .ref a, rfl, a, rfl, ⟨_, .inl (.inl ha3)⟩, fun D0 nD0 => ?_⟩
    refine out_it (walk_list (K := K) (a := a) (xs := r.map V.str)) (fun i H' => Same H3 H' ∧ H' D0 = some (.dK (dct (r.take i) ((List.replicate i m).map V.int)))) ⟨same_upd nD0, upd_same⟩ (fun i H' _ hP => .inl (.inl (hP.1 _ _ ha3)))
      (fun i x H4' H4 hi hP hY => ?_) (fun H4 hP => ?_)
    · obtain ⟨rfl, hx⟩ := hY
      obtain ⟨s4, hD⟩ := hP
      rw [List.length_map] at hi
      have exx : x = .str r[i] := by
        rw [List.getElem?_map, List.getElem?_eq_getElem hi] at hx
        exact (Option.some.inj hx).symm
      subst exx
      have lrep : ((List.replicate i m).map V.int).length = (r.take i).length := by
        rw [List.length_map, List.length_replicate, List.length_take]
        omega
      refine ⟨rfl, _, rfl, _, rfl, _, Sum.inr r[i], rfl, hD, ?_, fun c o ec => ?_, ?_⟩
      · rw [dct_len lrep, List.length_take]
        exact small1000 (by omega)
      · rw [upd_ne (ne_of_none ec nD0)]
        exact s4 c o ec
      · have no : ∀ kv ∈ dct (r.take i) ((List.replicate i m).map V.int), ¬ kv.1 = (Sum.inr r[i] : Key) := dct_nokey fun z => by
          obtain ⟨j, hj, e'⟩ := List.getElem_of_mem z
          rw [List.length_take] at hj
          rw [List.getElem_take] at e'
          have := (List.getElem_inj co.nd).mp e'
          omega
        rw [upd_same, put_new no, ← dct_snoc lrep, ← take_succ hi, ← take_rep r m hi]
    · obtain ⟨s4, hD⟩ := hP
      rw [List.length_map, List.take_length, ← moreK_dct] at hD
      have s14 := s13.trans s4
      exact ⟨b, D0, M, _, rfl, book_same hb s14, co.ok, hD, co.fo, fun b' H5 s5 nb hb5 => q b' H5 (s14.trans s5) (s14.free nb) hb5⟩
/-! ### stepped, a clear -/
def spStC (K : PySem.W.Frag) (C : Addr) : Sp := fun vs H Q _ => ∃ (b t : Addr) (M : Bk) (z : Str) (m : Int) (r : List Str), vs = [.ref b, .ref t] ∧ H t = some (.tup [.str "clear", .str z, .int m]) ∧ BookAt K C H b M ∧ ClearOk M z m r ∧
  ∀ b' H', Same H H' → H b' = none → BookAt K C H' b' (fallM M (r.map fun x => (x, m))) → Q (.ref b') H'
theorem ok_stC {f f1 fp fc C : Addr} {fd fd1 fdc : FuncData} (F : Fun K "stepped" "stepped" sStp f fd) (TB : TabAt K w mg "ACTIONS" fp fc) (IS : Has P w K mg base 1 "is_step" ["thing"] (spIsS K) f1 fd1) (CR : Has P w K mg base 9 "clear_ring" ["book", "who", "amount"] (spClR K C) fc fdc) :
    FnOk P w K mg base CX0 10 f fd ["book", "step"] (spStC K C) := by
  obtain ⟨d, es, n, gd, KD, np, nc⟩ := TB.ex
  refine F.ok scStp (fun vs H Q E h => ?_) (fun cdv A outer s H vs Q E hr h => ?_)
  · obtain ⟨_, _, _, _, _, _, rfl, _⟩ := h
    rfl
  · obtain ⟨b, t, M, z, m, r, rfl, ht, hb, co, q⟩ := h
    refine ⟨_, pss_cons (ps_if (pt_not (pt_val (pe_call IS.ok (hr.mono (by decide)) (by rfl) IS.g IS.kp IS.b .nil pass0 (pa_cons (pv 1) pa_nil)))) pss_never pss_nil)
      (pss_cons (ps_asg (pv 1) (pg_tup rfl (pgs_cons (pg_name (i := 2) scStp.nd rfl (.inl rfl)) (pgs_cons (pg_name (i := 3) scStp.nd rfl (.inl rfl)) (pgs_cons (pg_name (i := 4) scStp.nd rfl (.inl rfl)) pgs_nil)))))
      (pss_cons (ps_set (i := 5) scStp.nd rfl (.inl rfl) (pe_ix ix_kdict (pe_glob (v := .ref d) (by rfl) gd rfl) (pv 2) (fun _ _ => rfl)))
      (pss_one (ps_ret (pe_callL (i := 5) (f := fc) CR.ok hr rfl (.inl rfl) CR.kp CR.b .nil pass0 (pa_cons (pv 0) (pa_cons (pv 3) (pa_cons (pv 4) pa_nil)))))))), ?_⟩
    refine ⟨.ref t, rfl, t, "clear", _, _, rfl, ht, .inr rfl, fun H1 s1 => ⟨_, rfl, iteF ?_⟩⟩
    refine ⟨.ref t, rfl, t, _, rfl, .inl (.inl (s1 _ _ ht)), rfl, _, _, rfl, _, _, rfl, _, _, rfl, rfl, ?_⟩
    refine ⟨.str "clear", rfl, d, _, .ref fc, rfl, rfl, ⟨es, n, _, KD.at_, KD.lit, nc, rfl⟩, rfl, .ref b, rfl, .str z, rfl, .int m, rfl, b, M, z, m, r, rfl, book_same hb s1, co, fun b' H2 s2 nb hb2 => ?_⟩
    exact q b' H2 (s1.trans s2) (s1.free nb) hb2
end
end Rc

namespace Rc
open PySem PySem.Spec PyProof.Rows L2 RZ
theorem stepW_inv {K : PySem.W.Frag} {H : Hp} {v : V} {n : Str × Str} (h : Dt K H v (stepW n)) : ∃ a, v = .ref a ∧ SqT K H a [.str n.1, .str n.2] := by
  obtain ⟨a, xs, rfl, q, d⟩ := h.tup_inv
  cases d with
  | cons d1 d2 =>
    cases d1
    cases d2 with
    | cons d3 d4 =>
      cases d3
      cases d4
      exact ⟨a, rfl, q⟩
theorem butD_kp {H H' : Hp} {x : Addr} {kvs : List (Key × V)} (b : But x H H') (h : H x = some (.dK kvs)) : Kp H H' := fun c o e f => b c o (fun z => by
  rw [z, h] at e
  cases e
  exact f) e
def kindOf (W : List (Str × Str)) (k : Str) : List Str := (W.filter fun p => decide (p.1 = k)).map (·.2)
theorem kind_mem {zs : List Str} {D : Md} {k z : Str} (h : z ∈ kindOf (stepsW zs D) k) : z ∈ zs ∧ 0 < mostW zs D k z := by
  unfold kindOf at h
  obtain ⟨p, hp, rfl⟩ := List.mem_map.mp h
  obtain ⟨h1, h2⟩ := List.mem_filter.mp hp
  unfold stepsW at h1
  obtain ⟨y, hy, h3⟩ := List.mem_flatMap.mp h1
  unfold stepsAt at h3
  obtain ⟨q, hq, rfl⟩ := List.mem_map.mp h3
  obtain ⟨_, h4⟩ := List.mem_filter.mp hq
  have h2' : q = k := of_decide_eq_true h2
  subst h2'
  exact ⟨hy, of_decide_eq_true h4⟩
theorem mem_kind {zs : List Str} {D : Md} {k z : Str} (hk : k ∈ kindsW) (h : z ∈ zs) (h0 : 0 < mostW zs D k z) : z ∈ kindOf (stepsW zs D) k := by
  unfold kindOf stepsW stepsAt
  exact List.mem_map.mpr ⟨(k, z), List.mem_filter.mpr ⟨List.mem_flatMap.mpr ⟨z, h, List.mem_map.mpr ⟨k, List.mem_filter.mpr ⟨hk, decide_eq_true h0⟩, rfl⟩⟩, decide_eq_true rfl⟩, rfl⟩
theorem steps_le (zs : List Str) (D : Md) : ∀ l : List Str, (l.flatMap (stepsAt zs D)).length ≤ 2 * l.length
  | [] => Nat.le_refl _
  | z :: r => by
    rw [List.flatMap_cons, List.length_append, List.length_cons]
    have := steps_le zs D r
    have := steps_len zs D z
    omega
/-! ### who stands in a round -/
def rd (as : List Str) (i : Nat) : Str := as.getD (i % as.length) Str.empty
def Round (nx : Str → Option Str) (as : List Str) : Prop := ∀ i, nx (rd as i) = some (rd as (i + 1))
theorem rd_at {as : List Str} {i : Nat} (h : i < as.length) : as[i]? = some (rd as i) := by
  unfold rd
  rw [Nat.mod_eq_of_lt h, List.getD_eq_getElem?_getD, List.getElem?_eq_getElem h]
  rfl
theorem rd_mem {as : List Str} (h : 0 < as.length) (i : Nat) : rd as i ∈ as := by
  have hl := Nat.mod_lt i h
  unfold rd
  rw [List.getD_eq_getElem?_getD, List.getElem?_eq_getElem hl]
  exact List.getElem_mem hl
theorem round_at {nx : Str → Option Str} {as T : List Str} (hr : Round nx as) (h0 : T[0]? = some (rd as 0)) (ch : Chain nx T) : ∀ i, i < T.length → T[i]? = some (rd as i)
  | 0, _ => h0
  | i + 1, h => by
    have ih := round_at hr h0 ch i (by omega)
    have e1 := List.getElem?_eq_getElem h
    have := ch i _ _ ih e1
    rw [hr i] at this
    rw [e1, ← Option.some.inj this]
theorem round_ring {zs : List Str} {nx : Str → Option Str} {as : List Str} (ld : Leads zs nx) (nd : as.Nodup) (h0 : 0 < as.length) (hz : rd as 0 ∈ zs) (hr : Round nx as) : ∃ r, ringM zs nx (rd as 0) = some r := by
  have en := trail_ended ld hz
  have ch := trailM_chain zs nx (rd as 0)
  obtain ⟨tl, eT⟩ := en.first
  obtain ⟨ini, y, eT2, ed⟩ := en.last
  have eL := lastM_eq eT2
  have hT := round_at (T := trailM zs nx (rd as 0)) hr (by rw [eT]; rfl) ch
  have nT := en.nd
  have bk := en.back
  have lT : (trailM zs nx (rd as 0)).length = ini.length + 1 := by rw [eT2, List.length_append]; rfl
  have hy : y = rd as ini.length := by
    have := hT ini.length (by omega)
    rw [eT2, List.getElem?_append_right (Nat.le_refl _), Nat.sub_self] at this
    exact Option.some.inj this
  have hle : ini.length + 1 ≤ as.length := Decidable.byContradiction fun c => by
    have h1 := hT as.length (by omega)
    have h2 := hT 0 (by omega)
    have e : rd as as.length = rd as 0 := by
      unfold rd
      rw [Nat.mod_self, Nat.zero_mod]
    rw [e, ← h2] at h1
    have := (List.getElem?_inj (by omega) nT).mp h1
    omega
  have hb : rd as (ini.length + 1) ∈ trailM zs nx (rd as 0) := by
    refine bk _ ?_
    rw [eL, hy]
    exact hr _
  have hfull : ini.length + 1 = as.length := Decidable.byContradiction fun c => by
    obtain ⟨i, hi, e⟩ := List.getElem_of_mem hb
    have h1 := hT i hi
    rw [List.getElem?_eq_getElem hi, e] at h1
    have h2 := rd_at (as := as) (i := ini.length + 1) (by omega)
    have h3 := rd_at (as := as) (i := i) (by omega)
    rw [Option.some.inj h1, ← h3] at h2
    have := (List.getElem?_inj (by omega) nd).mp h2
    omega
  have e0 : nx (lastM zs nx (rd as 0)) = some (rd as 0) := by
    rw [eL, hy, hr, hfull]
    congr 1
    unfold rd
    rw [Nat.mod_self, Nat.zero_mod]
  unfold ringM
  rw [if_pos e0]
  exact ⟨_, rfl⟩
theorem ring_pos {zs : List Str} {D : Md} {z : Str} {r : List Str} (g : Gs zs D) (hz : z ∈ zs) (hR : ringM zs (nxD zs D) z = some r) : 0 < mostW zs D "clear" z ∧ mostW zs D "clear" z ≤ 10 ^ 58 ∧ mostW zs D "clear" z = leastI (r.map (amtAt zs (duesM (bkOf zs D)))) := by
  have wk := g.walks
  obtain ⟨_, _, _, ne⟩ := ring_perm wk.ld hz hR
  have rdu := ring_due wk.ld hz hR
  have em : mostW zs D "clear" z = leastI (r.map (amtAt zs (duesM (bkOf zs D)))) := by
    unfold mostW
    rw [if_neg (fun c => pay_ne_clear (congrArg V.str c.symm).symm)]
    exact mostC_some hR
  have ne2 : r.map (amtAt zs (duesM (bkOf zs D))) ≠ [] := by simpa using ne
  obtain ⟨hm, _⟩ := least_mem ne2
  obtain ⟨x, hx, ex⟩ := List.mem_map.mp hm
  obtain ⟨hxz, t, ht⟩ := rdu x hx
  have ht2 : ((duesM (bkOf zs D)).getD (zs.idxOf x) none).map (·.1) = some t := ht
  have ha : 1 ≤ amtAt zs (duesM (bkOf zs D)) x ∧ amtAt zs (duesM (bkOf zs D)) x ≤ 10 ^ 58 := by
    cases h : (duesM (bkOf zs D)).getD (zs.idxOf x) none with
    | none =>
      rw [h] at ht2
      cases ht2
    | some n =>
      have gn : 1 ≤ n.2 ∧ n.2 ≤ 10 ^ 58 := (g.due (getD_mem h)).2
      have ea : amtAt zs (duesM (bkOf zs D)) x = n.2 := by
        unfold amtAt
        rw [h]
      rw [ea]
      exact gn
  rw [ex] at ha
  rw [em]
  exact ⟨by omega, ha.2, rfl⟩
/-! ### the first notes -/
def noteAt (zs : List Str) (j : Nat) : Deed → Option (Str × Int)
  | .give _ _ => none
  | .put z y n => if zs.idxOf z = j then some (y, n) else none
theorem notes_fold (zs : List Str) (j : Nat) : ∀ (ds : List Deed) (D : Md) (l : List (Str × Int)), D.notes[j]? = some l → (ds.foldl (doneD zs) D).notes[j]? = some (l ++ ds.filterMap (noteAt zs j))
  | [], D, l, h => by
    rw [List.filterMap_nil, List.append_nil]
    exact h
  | d :: r, D, l, h => by
    rw [List.foldl_cons]
    cases d with
    | give z n =>
      rw [notes_fold zs j r _ l (by exact h), List.filterMap_cons]
      rfl
    | put z y n =>
      by_cases hj : zs.idxOf z = j
      · have e : (doneD zs D (.put z y n)).notes[j]? = some (l ++ [(y, n)]) := by
          show (D.notes.set (zs.idxOf z) (D.notes.getD (zs.idxOf z) [] ++ [(y, n)]))[j]? = _
          rw [hj, List.getElem?_set_self (List.getElem?_eq_some_iff.mp h).1, getD_of h]
        rw [notes_fold zs j r _ _ e, List.filterMap_cons]
        have en : noteAt zs j (.put z y n) = some (y, n) := if_pos hj
        rw [en, List.append_assoc]
        rfl
      · have e : (doneD zs D (.put z y n)).notes[j]? = some l := by
          show (D.notes.set (zs.idxOf z) (D.notes.getD (zs.idxOf z) [] ++ [(y, n)]))[j]? = _
          rw [List.getElem?_set_ne hj]
          exact h
        rw [notes_fold zs j r _ _ e, List.filterMap_cons]
        have en : noteAt zs j (.put z y n) = none := if_neg hj
        rw [en]
/-- the first deeds: each puts a note to the next one -/
def roundDs (as : List Str) (ns : List Int) : List Deed := (List.range ns.length).map fun i => .put (rd as i) (rd as (i + 1)) (ns.getD i 0)
theorem roundDs_snoc (as : List Str) (ns : List Int) (n : Int) : roundDs as (ns ++ [n]) = roundDs as ns ++ [.put (rd as ns.length) (rd as (ns.length + 1)) n] := by
  unfold roundDs
  rw [List.length_append, show [n].length = 1 from rfl, List.range_succ, List.map_append]
  congr 1
  · refine List.map_congr_left fun i hi => ?_
    have hi' := List.mem_range.mp hi
    rw [List.getD_eq_getElem?_getD, List.getElem?_append_left hi', List.getD_eq_getElem?_getD]
  · show [Deed.put _ _ ((ns ++ [n]).getD ns.length 0)] = _
    rw [List.getD_eq_getElem?_getD, List.getElem?_append_right (Nat.le_refl _), Nat.sub_self]
    rfl
theorem idx_inj {zs : List Str} {x y : Str} (hx : x ∈ zs) (hy : y ∈ zs) (h : zs.idxOf x = zs.idxOf y) : x = y := by
  have e1 := idx_get hx
  rw [h, idx_get hy] at e1
  exact (Option.some.inj e1).symm
theorem rd_inj {as : List Str} (nd : as.Nodup) {i k : Nat} (hk : k < as.length) (h : rd as k = rd as i) : k = i % as.length := by
  have hl := Nat.mod_lt i (show 0 < as.length by omega)
  have e1 := rd_at hk
  have e2 := rd_at hl
  have e3 : rd as (i % as.length) = rd as i := by
    unfold rd
    rw [Nat.mod_mod]
  rw [e3, ← h, ← e1] at e2
  exact ((List.getElem?_inj hl nd).mp e2).symm
theorem round_md {zs as : List Str} {ns : List Int} {rest : List Deed} (nz : NamesOk zs) (nd : as.Nodup) (sub : ∀ y ∈ as, y ∈ zs) (h0 : 0 < as.length) (ln : ns.length = as.length) {k : Nat} (gd : Gd zs (mdAt zs (roundDs as ns ++ rest)) k) : Round (nxD zs (mdAt zs (roundDs as ns ++ rest))) as := fun i => by
  have hm := sub _ (rd_mem h0 i)
  have hj : zs.idxOf (rd as i) < zs.length := List.idxOf_lt_length_of_mem hm
  have e0 : (newMd zs.length).notes[zs.idxOf (rd as i)]? = some [] := by
    show (List.replicate zs.length [])[_]? = _
    rw [List.getElem?_replicate, if_pos hj]
  have el : (mdAt zs (roundDs as ns ++ rest)).notes[zs.idxOf (rd as i)]? = _ := notes_fold zs (zs.idxOf (rd as i)) (roundDs as ns ++ rest) _ _ e0
  rw [List.nil_append, List.filterMap_append] at el
  have ef : (mdAt zs (roundDs as ns ++ rest)).fallen[zs.idxOf (rd as i)]? = some 0 := by
    rw [gd.zf]
    show (List.replicate zs.length 0)[_]? = _
    rw [List.getElem?_replicate, if_pos hj]
  rw [nxD_at nz.nd (idx_get hm) el ef, left_zero fun n hn => (gd.nt _ (List.mem_of_getElem? el) n hn).2.1]
  have all : ∀ n ∈ (roundDs as ns).filterMap (noteAt zs (zs.idxOf (rd as i))), n.1 = rd as (i + 1) := fun n hn => by
    obtain ⟨d, hd, e⟩ := List.mem_filterMap.mp hn
    unfold roundDs at hd
    obtain ⟨k', hk', rfl⟩ := List.mem_map.mp hd
    have hk2 := List.mem_range.mp hk'
    have e' : (if zs.idxOf (rd as k') = zs.idxOf (rd as i) then some (rd as (k' + 1), ns.getD k' 0) else none) = some n := e
    split at e'
    · rename_i hc
      have := rd_inj nd (by omega) (idx_inj (sub _ (rd_mem h0 k')) hm hc)
      rw [← Option.some.inj e', this]
      show rd as (i % as.length + 1) = _
      unfold rd
      rw [Nat.mod_add_mod]
    · cases e'
  have hne : (roundDs as ns).filterMap (noteAt zs (zs.idxOf (rd as i))) ≠ [] := fun c => by
    have hl := Nat.mod_lt i h0
    have e3 : rd as (i % as.length) = rd as i := by
      unfold rd
      rw [Nat.mod_mod]
    have hm2 : (rd as (i % as.length + 1), ns.getD (i % as.length) 0) ∈ (roundDs as ns).filterMap (noteAt zs (zs.idxOf (rd as i))) := by
      refine List.mem_filterMap.mpr ⟨.put (rd as (i % as.length)) (rd as (i % as.length + 1)) (ns.getD (i % as.length) 0), ?_, if_pos (by rw [e3])⟩
      unfold roundDs
      exact List.mem_map.mpr ⟨i % as.length, List.mem_range.mpr (by omega), rfl⟩
    rw [c] at hm2
    cases hm2
  cases h : (roundDs as ns).filterMap (noteAt zs (zs.idxOf (rd as i))) with
  | nil => exact absurd h hne
  | cons n r =>
    show some n.1 = _
    rw [all n (by rw [h]; exact List.mem_cons_self)]
end Rc

namespace Rc
open PySem PySem.Spec PyProof.Rows L2 RZ
/-! ### the settled one is the greatest -/
theorem part_mono {a f g : Int} (h : f ≤ g) : partOf a f ≤ partOf a g ∧ f - partOf a f ≤ g - partOf a g := by
  unfold partOf
  constructor <;> (repeat' split) <;> omega
theorem sumTo_gone (y t : Str) (a f : Int) (r : List (Str × Int)) (h : 0 ≤ partOf a f) : sumTo y (goneN ((t, a) :: r) f) = (if t = y then partOf a f else 0) + sumTo y (goneN r (f - partOf a f)) := by
  rw [goneN_cons, sumTo_app, sumTo_one y t _ h]
theorem part_nonneg {a f : Int} (ha : 1 ≤ a) (hf : 0 ≤ f) : 0 ≤ partOf a f ∧ 0 ≤ f - partOf a f := by
  unfold partOf
  constructor <;> (repeat' split) <;> omega
theorem gone_mono (y : Str) : ∀ {l : List (Str × Int)} {f g : Int}, (∀ n ∈ l, 1 ≤ n.2) → 0 ≤ f → f ≤ g → sumTo y (goneN l f) ≤ sumTo y (goneN l g)
  | [], _, _, _, _, _ => Int.le_refl _
  | (t, a) :: r, f, g, hn, hf, hg => by
    have ha : 1 ≤ a := hn (t, a) List.mem_cons_self
    obtain ⟨p1, p2⟩ := part_nonneg ha hf
    obtain ⟨q1, q2⟩ := part_nonneg ha (show 0 ≤ g by omega)
    obtain ⟨m1, m2⟩ := part_mono (a := a) hg
    rw [sumTo_gone y t a f r p1, sumTo_gone y t a g r q1]
    have ih := gone_mono y (l := r) (fun n hn' => hn n (List.mem_cons_of_mem _ hn')) p2 m2
    split <;> omega
/-- a sum over some persons -/
def sumOn (S : List Str) (h : Str → Int) : Int := (S.map h).sum
theorem sumOn_add (S : List Str) (h k : Str → Int) : sumOn S (fun y => h y + k y) = sumOn S h + sumOn S k := by
  induction S with
  | nil => rfl
  | cons y r ih =>
    unfold sumOn at ih ⊢
    simp only [List.map_cons, List.sum_cons]
    omega
theorem sumOn_le {S : List Str} {h k : Str → Int} (hh : ∀ y ∈ S, h y ≤ k y) : sumOn S h ≤ sumOn S k := by
  induction S with
  | nil => exact Int.le_refl _
  | cons y r ih =>
    have h1 := hh y List.mem_cons_self
    have h2 := ih fun z hz => hh z (List.mem_cons_of_mem _ hz)
    unfold sumOn at h2 ⊢
    simp only [List.map_cons, List.sum_cons]
    omega
theorem sumOn_one {S : List Str} (nd : S.Nodup) (t : Str) {m : Int} (h : 0 ≤ m) : sumOn S (fun y => if t = y then m else 0) ≤ m ∧ (t ∉ S → sumOn S (fun y => if t = y then m else 0) = 0) := by
  induction S with
  | nil => exact ⟨h, fun _ => rfl⟩
  | cons y r ih =>
    obtain ⟨n1, n2⟩ := List.nodup_cons.mp nd
    obtain ⟨i1, i2⟩ := ih n2
    unfold sumOn at i1 i2 ⊢
    simp only [List.map_cons, List.sum_cons]
    by_cases e : t = y
    · subst e
      rw [if_pos rfl, i2 n1]
      exact ⟨by omega, fun c => absurd List.mem_cons_self c⟩
    · rw [if_neg e]
      exact ⟨by omega, fun c => by rw [i2 fun z => c (List.mem_cons_of_mem _ z)]; rfl⟩
theorem sumOn_congr {S : List Str} {h k : Str → Int} (hh : ∀ y ∈ S, h y = k y) : sumOn S h = sumOn S k :=
  Int.le_antisymm (sumOn_le fun y hy => Int.le_of_eq (hh y hy)) (sumOn_le fun y hy => Int.le_of_eq (hh y hy).symm)
/-- what more falls to some persons is no more than what more falls -/
theorem gone_on {S : List Str} (nd : S.Nodup) : ∀ {l : List (Str × Int)} {f g : Int}, (∀ n ∈ l, 1 ≤ n.2) → 0 ≤ f → f ≤ g → sumOn S (fun y => sumTo y (goneN l g) - sumTo y (goneN l f)) ≤ g - f
  | [], f, g, _, _, hg => by
    have : sumOn S (fun y => sumTo y (goneN [] g) - sumTo y (goneN [] f)) = sumOn S (fun _ => 0) := sumOn_congr fun y _ => by
      rw [goneN_nil, goneN_nil, sumTo_nil]
      rfl
    rw [this]
    have h0 : sumOn S (fun _ => 0) ≤ 0 := by
      have := (sumOn_one nd Str.empty (m := 0) (Int.le_refl _)).1
      have e : sumOn S (fun y => if Str.empty = y then (0 : Int) else 0) = sumOn S (fun _ => 0) := sumOn_congr fun y _ => by split <;> rfl
      omega
    omega
  | (t, a) :: r, f, g, hn, hf, hg => by
    have ha : 1 ≤ a := hn (t, a) List.mem_cons_self
    obtain ⟨p1, p2⟩ := part_nonneg ha hf
    obtain ⟨q1, q2⟩ := part_nonneg ha (show 0 ≤ g by omega)
    obtain ⟨m1, m2⟩ := part_mono (a := a) hg
    have ih := gone_on nd (l := r) (fun n hn' => hn n (List.mem_cons_of_mem _ hn')) p2 m2
    have e : sumOn S (fun y => sumTo y (goneN ((t, a) :: r) g) - sumTo y (goneN ((t, a) :: r) f)) = sumOn S (fun y => (if t = y then partOf a g - partOf a f else 0) + (sumTo y (goneN r (g - partOf a g)) - sumTo y (goneN r (f - partOf a f)))) := sumOn_congr fun y _ => by
      rw [sumTo_gone y t a f r p1, sumTo_gone y t a g r q1]
      split <;> omega
    rw [e, sumOn_add]
    have := (sumOn_one nd t (m := partOf a g - partOf a f) (by omega)).1
    omega
/-- less, where the due note is to none of them -/
theorem gone_less {S : List Str} (nd : S.Nodup) {l r : List (Str × Int)} {f g b : Int} {t : Str} (hn : ∀ n ∈ l, 1 ≤ n.2) (hf : 0 ≤ f) (hg : f < g) (e : leftN l f = (t, b) :: r) (b1 : 1 ≤ b) (ht : t ∉ S) :
    sumOn S (fun y => sumTo y (goneN l g) - sumTo y (goneN l f)) < g - f := by
  by_cases hb : b ≤ g - f
  · obtain ⟨_, h2⟩ := fall_one (m := b) hn hf (by omega) (Int.le_refl _) e
    have h3 := gone_on nd (l := l) (f := f + b) (g := g) hn (by omega) (by omega)
    have e2 : sumOn S (fun y => sumTo y (goneN l g) - sumTo y (goneN l f)) = sumOn S (fun y => sumTo y (goneN l g) - sumTo y (goneN l (f + b))) := sumOn_congr fun y hy => by
      have hne : ¬ t = y := fun c => ht (by rw [c]; exact hy)
      rw [h2 y, if_neg hne]
      omega
    omega
  · obtain ⟨_, h2⟩ := fall_one (m := g - f) hn hf (by omega) (by omega) e
    have eg : f + (g - f) = g := by omega
    rw [eg] at h2
    have e2 : sumOn S (fun y => sumTo y (goneN l g) - sumTo y (goneN l f)) = sumOn S (fun _ => 0) := sumOn_congr fun y hy => by
      have hne : ¬ t = y := fun c => ht (by rw [c]; exact hy)
      rw [h2 y, if_neg hne]
      omega
    have h0 : sumOn S (fun _ => 0) ≤ 0 := by
      have := (sumOn_one nd Str.empty (m := 0) (Int.le_refl _)).1
      have e : sumOn S (fun y => if Str.empty = y then (0 : Int) else 0) = sumOn S (fun _ => 0) := sumOn_congr fun y _ => by split <;> rfl
      omega
    omega
/-! ### some whose due notes stay among them are led into a ring -/
theorem stay_ring {zs S : List Str} {nx : Str → Option Str} (ld : Leads zs nx) {z0 : Str} (h0 : z0 ∈ S) (sub : ∀ y ∈ S, y ∈ zs) (st : ∀ y ∈ S, ∃ x, nx y = some x ∧ x ∈ S) : ∃ z r, z ∈ zs ∧ ringM zs nx z = some r := by
  have en := trail_ended ld (sub _ h0)
  have ch := trailM_chain zs nx z0
  obtain ⟨tl, eT⟩ := en.first
  obtain ⟨ini, y, eT2, ed⟩ := en.last
  have eL := lastM_eq eT2
  have nT := en.nd
  have bk := en.back
  -- all of the trail are among them
  have allS : ∀ (i : Nat) (x : Str), (trailM zs nx z0)[i]? = some x → x ∈ S := fun i => by
    induction i with
    | zero =>
      intro x hx
      rw [eT] at hx
      exact Option.some.inj hx ▸ h0
    | succ i ih =>
      intro x hx
      have hi : i < (trailM zs nx z0).length := by
        have := (List.getElem?_eq_some_iff.mp hx).1
        omega
      have e1 := List.getElem?_eq_getElem hi
      have c := ch i _ _ e1 hx
      obtain ⟨x', hx', hs⟩ := st _ (ih _ e1)
      rw [c] at hx'
      exact Option.some.inj hx' ▸ hs
  have hyS : y ∈ S := allS ini.length y (by rw [eT2, List.getElem?_append_right (Nat.le_refl _), Nat.sub_self]; rfl)
  obtain ⟨x, hx, _⟩ := st y hyS
  have hxT := bk x (by rw [ed]; exact hx)
  generalize hk : (trailM zs nx z0).idxOf x = k
  have hkl : k < (trailM zs nx z0).length := hk ▸ List.idxOf_lt_length_of_mem hxT
  have hkx : (trailM zs nx z0)[k]? = some x := hk ▸ idx_get hxT
  have lT : (trailM zs nx z0).length = ini.length + 1 := by rw [eT2, List.length_append]; rfl
  have la : ((trailM zs nx z0).drop k).length = ini.length + 1 - k := by rw [List.length_drop, lT]
  have at_ : ∀ i, i < ((trailM zs nx z0).drop k).length → (trailM zs nx z0)[k + i]? = some (rd ((trailM zs nx z0).drop k) i) := fun i hi => by
    rw [← List.getElem?_drop]
    exact rd_at hi
  have r0 : rd ((trailM zs nx z0).drop k) 0 = x := by
    have := at_ 0 (by omega)
    rw [Nat.add_zero, hkx] at this
    exact (Option.some.inj this).symm
  have hround : Round nx ((trailM zs nx z0).drop k) := fun i => by
    have hpos : 0 < ((trailM zs nx z0).drop k).length := by omega
    have hl := Nat.mod_lt i hpos
    have e1 : rd ((trailM zs nx z0).drop k) i = rd ((trailM zs nx z0).drop k) (i % ((trailM zs nx z0).drop k).length) := by
      unfold rd
      rw [Nat.mod_mod]
    have e2 : rd ((trailM zs nx z0).drop k) (i + 1) = rd ((trailM zs nx z0).drop k) (i % ((trailM zs nx z0).drop k).length + 1) := by
      unfold rd
      rw [Nat.mod_add_mod]
    rw [e1, e2]
    generalize i % ((trailM zs nx z0).drop k).length = j at hl
    have a1 := at_ j hl
    by_cases hj : j + 1 < ((trailM zs nx z0).drop k).length
    · exact ch (k + j) _ _ a1 (by have := at_ (j + 1) hj; rw [← Nat.add_assoc] at this; exact this)
    · have ej : k + j = ini.length := by omega
      have ey : rd ((trailM zs nx z0).drop k) j = y := by
        rw [ej, eT2, List.getElem?_append_right (Nat.le_refl _), Nat.sub_self] at a1
        rw [← eT2] at a1
        exact (Option.some.inj a1).symm
      have ej1 : j + 1 = ((trailM zs nx z0).drop k).length := by omega
      have e3 : rd ((trailM zs nx z0).drop k) (j + 1) = x := by
        rw [← r0]
        unfold rd
        rw [ej1, Nat.mod_self, Nat.zero_mod]
      rw [ey, e3]
      exact hx
  have hxz : x ∈ zs := en.sub x hxT
  obtain ⟨r, hr⟩ := round_ring ld (nT.sublist (List.drop_sublist _ _)) (by omega) (by rw [r0]; exact hxz) hround
  rw [r0] at hr
  exact ⟨x, r, hxz, hr⟩
/-! ### sums over all -/
theorem sumOn_lt {S : List Str} {h k : Str → Int} (hh : ∀ y ∈ S, h y ≤ k y) {z : Str} (hz : z ∈ S) (hl : h z < k z) : sumOn S h < sumOn S k := by
  induction S with
  | nil => cases hz
  | cons y r ih =>
    have h1 := hh y List.mem_cons_self
    have h3 := sumOn_le (S := r) (h := h) (k := k) fun z hz => hh z (List.mem_cons_of_mem _ hz)
    rcases List.mem_cons.mp hz with e | e
    · subst e
      unfold sumOn at h3 ⊢
      simp only [List.map_cons, List.sum_cons]
      omega
    · have h2 := ih (fun z hz => hh z (List.mem_cons_of_mem _ hz)) e
      unfold sumOn at h2 ⊢
      simp only [List.map_cons, List.sum_cons]
      omega
theorem sumOn_zero (S : List Str) : sumOn S (fun _ => 0) = 0 := by
  induction S with
  | nil => rfl
  | cons y r ih =>
    unfold sumOn at ih ⊢
    simp only [List.map_cons, List.sum_cons]
    omega
theorem sumOn_sub (S : List Str) (h k : Str → Int) : sumOn S (fun y => h y - k y) = sumOn S h - sumOn S k := by
  induction S with
  | nil => rfl
  | cons y r ih =>
    unfold sumOn at ih ⊢
    simp only [List.map_cons, List.sum_cons]
    omega
theorem sumOn_comm (S T : List Str) (c : Str → Str → Int) : sumOn S (fun y => sumOn T (fun x => c x y)) = sumOn T (fun x => sumOn S (fun y => c x y)) := by
  induction S with
  | nil => exact (sumOn_zero T).symm
  | cons y r ih =>
    have e1 : sumOn (y :: r) (fun y => sumOn T (fun x => c x y)) = sumOn T (fun x => c x y) + sumOn r (fun y => sumOn T (fun x => c x y)) := rfl
    have e2 : sumOn T (fun x => sumOn (y :: r) (fun y => c x y)) = sumOn T (fun x => c x y + sumOn r (fun y => c x y)) := rfl
    rw [e1, e2, sumOn_add, ih]
theorem sumOn_filter (p : Str → Bool) (h : Str → Int) : ∀ S : List Str, sumOn (S.filter p) h = sumOn S (fun x => if p x = true then h x else 0)
  | [] => rfl
  | y :: r => by
    have ih := sumOn_filter p h r
    rw [List.filter_cons]
    have e2 : sumOn (y :: r) (fun x => if p x = true then h x else 0) = (if p y = true then h y else 0) + sumOn r (fun x => if p x = true then h x else 0) := rfl
    rw [e2, ← ih]
    by_cases hp : p y = true
    · rw [if_pos hp, if_pos hp]
      rfl
    · rw [if_neg hp, if_neg hp]
      omega
theorem zip_on {β : Type} {zs : List Str} (nd : zs.Nodup) {A : List β} {B : List Int} {a0 : β} (la : A.length = zs.length) (lb : B.length = zs.length) (h : β × Int → Int) : ((A.zip B).map h).sum = sumOn zs (fun x => h (A.getD (zs.idxOf x) a0, B.getD (zs.idxOf x) 0)) := by
  unfold sumOn
  congr 1
  refine List.ext_getElem? fun i => ?_
  rw [List.getElem?_map, List.getElem?_map]
  by_cases hi : i < zs.length
  · have ha : i < A.length := by omega
    have hb : i < B.length := by omega
    rw [List.getElem?_zip_eq_some (z := (A[i], B[i])) |>.mpr ⟨List.getElem?_eq_getElem ha, List.getElem?_eq_getElem hb⟩, List.getElem?_eq_getElem hi]
    show some (h (A[i], B[i])) = some (h (A.getD (zs.idxOf zs[i]) a0, B.getD (zs.idxOf zs[i]) 0))
    rw [nd.idxOf_getElem i hi, getD_of (List.getElem?_eq_getElem ha), getD_of (List.getElem?_eq_getElem hb)]
  · rw [List.getElem?_eq_none (by rw [List.length_zip]; omega), List.getElem?_eq_none (by omega)]
    rfl
theorem left_some : ∀ {l : List (Str × Int)} {f : Int}, (∀ n ∈ l, 1 ≤ n.2) → 0 ≤ f → f < wholeN l → ∃ t b r, leftN l f = (t, b) :: r ∧ 1 ≤ b
  | [], f, _, h0, h => by
    have : wholeN [] = 0 := rfl
    omega
  | (t, a) :: r, f, hn, h0, h => by
    have ha : 1 ≤ a := hn (t, a) List.mem_cons_self
    rw [wholeN_cons] at h
    rw [leftN_cons]
    obtain ⟨p1, p2⟩ := part_nonneg ha h0
    by_cases hp : partOf a f < a
    · rw [if_pos hp]
      exact ⟨t, a - partOf a f, _, rfl, by omega⟩
    · rw [if_neg hp]
      have pe : partOf a f = a := by
        unfold partOf at hp ⊢
        split at hp <;> (split <;> omega)
      obtain ⟨t', b, r', e, b1⟩ := left_some (l := r) (f := f - partOf a f) (fun n hn' => hn n (List.mem_cons_of_mem _ hn')) p2 (by have : f < a + wholeN r := h; omega)
      exact ⟨t', b, r', e, b1⟩
def withF (D : Md) (G : List Int) : Md := { D with fallen := G }
/-- nobody can pay, and there is no ring -/
structure Settled (zs : List Str) (D : Md) : Prop where
  pay : ∀ z ∈ zs, mostP (bkOf zs D) (zs.idxOf z) z = 0
  ring : ∀ z ∈ zs, ringM zs (nxD zs D) z = none
/-- what might have fallen, and is covered -/
structure Covers (zs : List Str) (D : Md) (G : List Int) : Prop where
  len : G.length = zs.length
  low : ∀ x ∈ G, 0 ≤ x
  top : ∀ (i : Nat) (l : List (Str × Int)) (x : Int), D.notes[i]? = some l → G[i]? = some x → x ≤ wholeN l
  cov : ∀ (i : Nat) (y : Str), zs[i]? = some y → 0 ≤ cashM (bkOf zs (withF D G)) i y
theorem settled_greatest {zs : List Str} {D : Md} {G : List Int} (g : Gs zs D) (st : Settled zs D) (cv : Covers zs D G) : ∀ z ∈ zs, G.getD (zs.idxOf z) 0 ≤ D.fallen.getD (zs.idxOf z) 0 := fun z0 hz0 => Decidable.byContradiction fun hc => by
  have nd := g.nz.nd
  -- those of whom the other has more
  have hS : ∀ y, y ∈ zs.filter (fun y => decide (D.fallen.getD (zs.idxOf y) 0 < G.getD (zs.idxOf y) 0)) ↔ y ∈ zs ∧ D.fallen.getD (zs.idxOf y) 0 < G.getD (zs.idxOf y) 0 := fun y => by
    rw [List.mem_filter]
    exact ⟨fun h => ⟨h.1, of_decide_eq_true h.2⟩, fun h => ⟨h.1, decide_eq_true h.2⟩⟩
  generalize hSd : zs.filter (fun y => decide (D.fallen.getD (zs.idxOf y) 0 < G.getD (zs.idxOf y) 0)) = S at hS
  have ndS : S.Nodup := hSd ▸ nd.sublist (List.filter_sublist)
  have at_ : ∀ x ∈ zs, ∃ l f x', D.notes[zs.idxOf x]? = some l ∧ D.fallen[zs.idxOf x]? = some f ∧ G[zs.idxOf x]? = some x' ∧ (∀ n ∈ l, 1 ≤ n.2) ∧ 0 ≤ f ∧ 0 ≤ x' ∧ x' ≤ wholeN l := fun x hx => by
    have hj := List.idxOf_lt_length_of_mem hx
    have h1 : zs.idxOf x < D.notes.length := by rw [g.ln]; exact hj
    have h2 : zs.idxOf x < D.fallen.length := by rw [g.lf]; exact hj
    have h3 : zs.idxOf x < G.length := by rw [cv.len]; exact hj
    exact ⟨_, _, _, List.getElem?_eq_getElem h1, List.getElem?_eq_getElem h2, List.getElem?_eq_getElem h3, fun n hn => (g.nt _ (List.getElem_mem h1) n hn).2.1, g.fl _ (List.getElem_mem h2), cv.low _ (List.getElem_mem h3), cv.top _ _ _ (List.getElem?_eq_getElem h1) (List.getElem?_eq_getElem h3)⟩
  obtain ⟨z, r, hz, hR⟩ := stay_ring (S := S) (z0 := z0) g.walks.ld ((hS z0).mpr ⟨hz0, by omega⟩) (fun y hy => ((hS y).mp hy).1) (fun y0 hy0 => by
    obtain ⟨hy0z, hy0l⟩ := (hS y0).mp hy0
    obtain ⟨l0, f0, x0, el0, ef0, eg0, hn0, hf0, hx0, hw0⟩ := at_ y0 hy0z
    rw [getD_of ef0, getD_of eg0] at hy0l
    obtain ⟨t, b, r0, eL, b1⟩ := left_some hn0 hf0 (by omega)
    have hnx : nxD zs D y0 = some t := by
      rw [nxD_at nd (idx_get hy0z) el0 ef0, eL]
      rfl
    refine ⟨t, hnx, Decidable.byContradiction fun ht => ?_⟩
    -- all sums
    have cF : ∀ y ∈ S, cashM (bkOf zs D) (zs.idxOf y) y = 0 := fun y hy => by
      obtain ⟨hyz, hyl⟩ := (hS y).mp hy
      obtain ⟨l, f, x, el, ef, eg, hn, hf, hx, hw⟩ := at_ y hyz
      rw [getD_of ef, getD_of eg] at hyl
      obtain ⟨t', b', r', eL', b1'⟩ := left_some hn hf (by omega)
      have eo : (duesM (bkOf zs D)).getD (zs.idxOf y) none = some (t', b') := by
        rw [getD_of (dues_at (M := bkOf zs D) el ef), eL']
        rfl
      have := st.pay y hyz
      rw [mostP_some (n := (t', b')) eo] at this
      have c0 := g.cs _ _ (idx_get hyz)
      split at this
      · exact this
      · have hb' : b' = 0 := this
        omega
    have e1 : ∀ (F : List Int), F.length = zs.length → ∀ y, fallTo (bkOf zs (withF D F)) y = sumOn zs (fun x => sumTo y (goneN (D.notes.getD (zs.idxOf x) []) (F.getD (zs.idxOf x) 0))) := fun F lF y => zip_on nd (A := D.notes) (B := F) (a0 := []) g.ln lF fun p => sumTo y (goneN p.1 p.2)
    have dif : ∀ y ∈ S, cashM (bkOf zs (withF D G)) (zs.idxOf y) y - cashM (bkOf zs D) (zs.idxOf y) y = sumOn zs (fun x => sumTo y (goneN (D.notes.getD (zs.idxOf x) []) (G.getD (zs.idxOf x) 0)) - sumTo y (goneN (D.notes.getD (zs.idxOf x) []) (D.fallen.getD (zs.idxOf x) 0))) - (G.getD (zs.idxOf y) 0 - D.fallen.getD (zs.idxOf y) 0) := fun y hy => by
      rw [sumOn_sub, ← e1 G cv.len y, ← e1 D.fallen g.lf y]
      show (D.given.getD (zs.idxOf y) 0 + fallTo (bkOf zs (withF D G)) y - G.getD (zs.idxOf y) 0) - (D.given.getD (zs.idxOf y) 0 + fallTo (bkOf zs D) y - D.fallen.getD (zs.idxOf y) 0) = fallTo (bkOf zs (withF D G)) y - fallTo (bkOf zs D) y - _
      omega
    have low : 0 ≤ sumOn S (fun y => cashM (bkOf zs (withF D G)) (zs.idxOf y) y - cashM (bkOf zs D) (zs.idxOf y) y) := by
      have := sumOn_le (S := S) (h := fun _ => 0) (k := fun y => cashM (bkOf zs (withF D G)) (zs.idxOf y) y - cashM (bkOf zs D) (zs.idxOf y) y) fun y hy => by
        have c1 := cv.cov _ _ (idx_get ((hS y).mp hy).1)
        have c2 := cF y hy
        show 0 ≤ cashM (bkOf zs (withF D G)) (zs.idxOf y) y - cashM (bkOf zs D) (zs.idxOf y) y
        omega
      rw [sumOn_zero] at this
      exact this
    rw [sumOn_congr dif, sumOn_sub, sumOn_comm] at low
    have top : sumOn zs (fun x => sumOn S (fun y => sumTo y (goneN (D.notes.getD (zs.idxOf x) []) (G.getD (zs.idxOf x) 0)) - sumTo y (goneN (D.notes.getD (zs.idxOf x) []) (D.fallen.getD (zs.idxOf x) 0)))) < sumOn zs (fun x => if decide (D.fallen.getD (zs.idxOf x) 0 < G.getD (zs.idxOf x) 0) = true then G.getD (zs.idxOf x) 0 - D.fallen.getD (zs.idxOf x) 0 else 0) := by
      refine sumOn_lt (z := y0) (fun x hx => ?_) hy0z ?_
      · obtain ⟨l, f, x', el, ef, eg, hn, hf, hx', hw⟩ := at_ x hx
        rw [getD_of el, getD_of ef, getD_of eg]
        by_cases h : f < x'
        · rw [if_pos (decide_eq_true h)]
          exact gone_on ndS hn hf (by omega)
        · rw [if_neg (by rw [decide_eq_false h]; exact Bool.false_ne_true)]
          have := sumOn_le (S := S) (h := fun y => sumTo y (goneN l x') - sumTo y (goneN l f)) (k := fun _ => 0) fun y _ => by
            have := gone_mono y (l := l) (f := x') (g := f) hn hx' (by omega)
            show sumTo y (goneN l x') - sumTo y (goneN l f) ≤ 0
            omega
          rw [sumOn_zero] at this
          exact this
      · rw [getD_of el0, getD_of ef0, getD_of eg0, if_pos (decide_eq_true hy0l)]
        exact gone_less ndS hn0 hf0 hy0l eL b1 ht
    rw [← sumOn_filter (fun x => decide (D.fallen.getD (zs.idxOf x) 0 < G.getD (zs.idxOf x) 0)) (fun x => G.getD (zs.idxOf x) 0 - D.fallen.getD (zs.idxOf x) 0) zs, hSd] at top
    omega)
  rw [st.ring z hz] at hR
  cases hR
theorem Gs.covers {zs : List Str} {D : Md} (g : Gs zs D) (gb : Gb D) : Covers zs D D.fallen := ⟨g.lf, g.fl, fun i l x el ex => gb.fw i l x el ex, g.cs⟩
/-- all ends are the same -/
theorem settled_one {zs : List Str} {D E : Md} (g : Gs zs D) (gb : Gb D) (g' : Gs zs E) (gb' : Gb E) (hg : E.given = D.given) (hn : E.notes = D.notes) (s : Settled zs D) (s' : Settled zs E) : E = D := by
  have c1 : Covers zs D E.fallen := by
    have c := g'.covers gb'
    refine ⟨c.len, c.low, fun i l x el ex => c.top i l x (by rw [hn]; exact el) ex, fun i y ei => ?_⟩
    have := c.cov i y ei
    unfold withF at this ⊢
    rw [hg, hn] at this
    exact this
  have c2 : Covers zs E D.fallen := by
    have c := g.covers gb
    refine ⟨c.len, c.low, fun i l x el ex => c.top i l x (by rw [← hn]; exact el) ex, fun i y ei => ?_⟩
    have := c.cov i y ei
    unfold withF at this ⊢
    rw [← hg, ← hn] at this
    exact this
  have h1 := settled_greatest g s c1
  have h2 := settled_greatest g' s' c2
  have e : E.fallen = D.fallen := by
    refine List.ext_getElem? fun i => ?_
    by_cases hi : i < zs.length
    · have ha : i < E.fallen.length := by rw [g'.lf]; exact hi
      have hb : i < D.fallen.length := by rw [g.lf]; exact hi
      have k1 := h1 zs[i] (List.getElem_mem hi)
      have k2 := h2 zs[i] (List.getElem_mem hi)
      rw [g.nz.nd.idxOf_getElem i hi, getD_of (List.getElem?_eq_getElem ha), getD_of (List.getElem?_eq_getElem hb)] at k1 k2
      rw [List.getElem?_eq_getElem ha, List.getElem?_eq_getElem hb]
      congr 1
      omega
    · rw [List.getElem?_eq_none (by rw [g'.lf]; omega), List.getElem?_eq_none (by rw [g.lf]; omega)]
  obtain ⟨a, b, c⟩ := D
  obtain ⟨a', b', c'⟩ := E
  simp only at hg hn e
  subst hg hn e
  rfl
/-! ### more never hurts -/
theorem gone_app : ∀ (l m : List (Str × Int)) (f : Int), (∀ n ∈ l, 1 ≤ n.2) → (∀ n ∈ m, 1 ≤ n.2) → 0 ≤ f → f ≤ wholeN l → goneN (l ++ m) f = goneN l f
  | [], m, f, _, hm, h0, h => by
    have e0 : wholeN [] = 0 := rfl
    have ef : f = 0 := by omega
    subst ef
    have : ∀ m : List (Str × Int), (∀ n ∈ m, 1 ≤ n.2) → goneN m 0 = [] := fun m => by
      induction m with
      | nil => exact fun _ => rfl
      | cons n r ih =>
        intro hm
        obtain ⟨t, a⟩ := n
        have ha : 1 ≤ a := hm (t, a) List.mem_cons_self
        rw [goneN_cons, part_zero ha]
        simp only [Int.lt_irrefl, if_false, Int.sub_zero, List.nil_append]
        exact ih fun n hn => hm n (List.mem_cons_of_mem _ hn)
    rw [List.nil_append, this m hm]
    rfl
  | (t, a) :: r, m, f, hl, hm, h0, h => by
    have ha : 1 ≤ a := hl (t, a) List.mem_cons_self
    obtain ⟨p1, p2⟩ := part_nonneg ha h0
    have hw : f - partOf a f ≤ wholeN r := by
      rw [wholeN_cons] at h
      have h' : f ≤ a + wholeN r := h
      have := wholeN_nonneg (l := r) fun n hn => hl n (List.mem_cons_of_mem _ hn)
      unfold partOf
      split <;> omega
    rw [List.cons_append, goneN_cons, goneN_cons, gone_app r m _ (fun n hn => hl n (List.mem_cons_of_mem _ hn)) hm p2 hw]
/-! ### each of a ring tells the same ring -/
theorem round_trail {zs : List Str} {nx : Str → Option Str} {as : List Str} (ld : Leads zs nx) (nd : as.Nodup) (h0 : 0 < as.length) (hz : rd as 0 ∈ zs) (hr : Round nx as) : trailM zs nx (rd as 0) = as := by
  have en := trail_ended ld hz
  have ch := trailM_chain zs nx (rd as 0)
  obtain ⟨tl, eT⟩ := en.first
  obtain ⟨ini, y, eT2, ed⟩ := en.last
  have eL := lastM_eq eT2
  have hT := round_at (T := trailM zs nx (rd as 0)) hr (by rw [eT]; rfl) ch
  have nT := en.nd
  have bk := en.back
  have lT : (trailM zs nx (rd as 0)).length = ini.length + 1 := by rw [eT2, List.length_append]; rfl
  have hy : y = rd as ini.length := by
    have := hT ini.length (by omega)
    rw [eT2, List.getElem?_append_right (Nat.le_refl _), Nat.sub_self] at this
    exact Option.some.inj this
  have hle : ini.length + 1 ≤ as.length := Decidable.byContradiction fun c => by
    have h1 := hT as.length (by omega)
    have h2 := hT 0 (by omega)
    have e : rd as as.length = rd as 0 := by
      unfold rd
      rw [Nat.mod_self, Nat.zero_mod]
    rw [e, ← h2] at h1
    have := (List.getElem?_inj (by omega) nT).mp h1
    omega
  have hb : rd as (ini.length + 1) ∈ trailM zs nx (rd as 0) := by
    refine bk _ ?_
    rw [eL, hy]
    exact hr _
  have hfull : ini.length + 1 = as.length := Decidable.byContradiction fun c => by
    obtain ⟨i, hi, e⟩ := List.getElem_of_mem hb
    have h1 := hT i hi
    rw [List.getElem?_eq_getElem hi, e] at h1
    have h2 := rd_at (as := as) (i := ini.length + 1) (by omega)
    have h3 := rd_at (as := as) (i := i) (by omega)
    rw [Option.some.inj h1, ← h3] at h2
    have := (List.getElem?_inj (by omega) nd).mp h2
    omega
  refine List.ext_getElem? fun i => ?_
  by_cases hi : i < as.length
  · rw [hT i (by omega), rd_at hi]
  · rw [List.getElem?_eq_none (by omega), List.getElem?_eq_none (by omega)]
theorem ring_round {zs : List Str} {nx : Str → Option Str} {z : Str} {r : List Str} (ld : Leads zs nx) (hz : z ∈ zs) (h : ringM zs nx z = some r) : Round nx (trailM zs nx z) := fun i => by
  have en := trail_ended ld hz
  have ch := trailM_chain zs nx z
  obtain ⟨tl, eT⟩ := en.first
  obtain ⟨ini, y, eT2, ed⟩ := en.last
  have eL := lastM_eq eT2
  have hl : nx (lastM zs nx z) = some z := by
    unfold ringM at h
    split at h
    · assumption
    · cases h
  have lT : (trailM zs nx z).length = ini.length + 1 := by rw [eT2, List.length_append]; rfl
  have hpos : 0 < (trailM zs nx z).length := by omega
  have hm := Nat.mod_lt i hpos
  have e1 : rd (trailM zs nx z) i = rd (trailM zs nx z) (i % (trailM zs nx z).length) := by
    unfold rd
    rw [Nat.mod_mod]
  have e2 : rd (trailM zs nx z) (i + 1) = rd (trailM zs nx z) (i % (trailM zs nx z).length + 1) := by
    unfold rd
    rw [Nat.mod_add_mod]
  rw [e1, e2]
  generalize i % (trailM zs nx z).length = j at hm
  have a1 := rd_at hm
  by_cases hj : j + 1 < (trailM zs nx z).length
  · exact ch j _ _ a1 (rd_at hj)
  · have ej : j = ini.length := by omega
    have ey : rd (trailM zs nx z) j = y := by
      have a2 : (ini ++ [y])[j]? = some y := by rw [ej, List.getElem?_append_right (Nat.le_refl _), Nat.sub_self]; rfl
      rw [← eT2, a1] at a2
      exact Option.some.inj a2
    have e3 : rd (trailM zs nx z) (j + 1) = z := by
      have ej1 : j + 1 = (trailM zs nx z).length := by omega
      have a3 := rd_at hpos
      have a4 : (trailM zs nx z)[0]? = some z := by rw [eT]; rfl
      rw [a3] at a4
      refine Eq.trans ?_ (Option.some.inj a4)
      unfold rd
      rw [ej1, Nat.mod_self, Nat.zero_mod]
    rw [ey, e3, ← eL]
    exact hl
theorem rot_rd {T : List Str} {k : Nat} (hk : k < T.length) (i : Nat) : rd (T.drop k ++ T.take k) i = rd T (k + i) := by
  have lr : (T.drop k ++ T.take k).length = T.length := by
    rw [List.length_append, List.length_drop, List.length_take]
    omega
  have hm := Nat.mod_lt i (show 0 < T.length by omega)
  have e1 : rd (T.drop k ++ T.take k) i = (T.drop k ++ T.take k).getD (i % T.length) Str.empty := by
    unfold rd
    rw [lr]
  have e2 : rd T (k + i) = T.getD ((k + i % T.length) % T.length) Str.empty := by
    unfold rd
    rw [Nat.add_mod_mod]
  rw [e1, e2]
  generalize i % T.length = j at hm
  rw [List.getD_eq_getElem?_getD, List.getD_eq_getElem?_getD]
  congr 1
  by_cases h : j < T.length - k
  · rw [List.getElem?_append_left (by rw [List.length_drop]; exact h), List.getElem?_drop, Nat.mod_eq_of_lt (by omega)]
  · rw [List.getElem?_append_right (by rw [List.length_drop]; omega), List.length_drop, List.getElem?_take, if_pos (by omega)]
    congr 1
    rw [Nat.mod_eq_sub_mod (by omega), Nat.mod_eq_of_lt (by omega)]
    omega
theorem no_rings {zs : List Str} {nx : Str → Option Str} (ld : Leads zs nx) (h : ∀ z ∈ zs, ∀ r, ringM zs nx z = some r → r.head? ≠ some z) : ∀ z ∈ zs, ringM zs nx z = none := fun z hz => by
  cases hR : ringM zs nx z with
  | none => rfl
  | some r =>
    exfalso
    have en := trail_ended ld hz
    have hzT : z ∈ trailM zs nx z := by
      obtain ⟨tl, eT⟩ := en.first
      rw [eT]
      exact List.mem_cons_self
    have hround := ring_round ld hz hR
    have nT := en.nd
    have sub := en.sub
    obtain ⟨f, rs, _, ef, fT, fz⟩ := find_some hz hzT
    generalize trailM zs nx z = T at hzT hround nT sub ef fT
    generalize hk : T.idxOf f = k
    have hkl : k < T.length := hk ▸ List.idxOf_lt_length_of_mem fT
    have hkf : T[k]? = some f := hk ▸ idx_get fT
    have pm : (T.drop k ++ T.take k).Perm T := by
      have := List.perm_append_comm (l₁ := T.drop k) (l₂ := T.take k)
      rw [List.take_append_drop] at this
      exact this
    have r0 : rd (T.drop k ++ T.take k) 0 = f := by
      rw [rot_rd hkl]
      have := rd_at hkl
      rw [hkf] at this
      exact (Option.some.inj this).symm
    have hr2 : Round nx (T.drop k ++ T.take k) := fun i => by
      rw [rot_rd hkl, rot_rd hkl]
      exact hround (k + i)
    have nd2 : (T.drop k ++ T.take k).Nodup := pm.symm.nodup nT
    have l0 : 0 < (T.drop k ++ T.take k).length := by
      rw [pm.length_eq]
      omega
    have et := round_trail ld nd2 l0 (by rw [r0]; exact fz) hr2
    obtain ⟨r2, hR2⟩ := round_ring ld nd2 l0 (by rw [r0]; exact fz) hr2
    rw [r0] at et hR2
    have ff : firstM zs (trailM zs nx f) = f := by
      rw [et, ← ef]
      unfold firstM
      congr 2
      funext x
      exact decide_eq_decide.mpr pm.mem_iff
    refine h f fz r2 hR2 ?_
    unfold ringM at hR2
    split at hR2
    · have e := Option.some.inj hR2
      rw [← e, ff]
      obtain ⟨tl, eT⟩ := (trail_ended ld fz).first
      rw [eT]
      simp
    · cases hR2
/-! ### where it ends -/
theorem settled_of {zs : List Str} {D : Md} (g : Gs zs D) (hr : ∀ z ∈ zs, ∀ r, ringM zs (nxD zs D) z = some r → r.head? ≠ some z) (hp : ∀ z ∈ zs, (duesM (bkOf zs D)).getD (zs.idxOf z) none = none ∨ cashM (bkOf zs D) (zs.idxOf z) z ≤ 0) : Settled zs D := by
  refine ⟨fun z hz => ?_, no_rings g.walks.ld hr⟩
  cases h : (duesM (bkOf zs D)).getD (zs.idxOf z) none with
  | none => exact mostP_none h
  | some n =>
    have gn : 1 ≤ n.2 ∧ n.2 ≤ 10 ^ 58 := (g.due (getD_mem h)).2
    have c0 := g.cs _ _ (idx_get hz)
    have c1 : cashM (bkOf zs D) (zs.idxOf z) z ≤ 0 := by
      rcases hp z hz with c | c
      · rw [h] at c
        cases c
      · exact c
    rw [mostP_some h]
    split <;> omega
theorem sum_seti : ∀ (l : List Int) (j : Nat) (f x : Int), l[j]? = some f → (l.set j x).sum = l.sum - f + x
  | [], j, f, x, h => by cases h
  | a :: r, 0, f, x, h => by
    have e : a = f := Option.some.inj h
    subst e
    simp only [List.set_cons_zero, List.sum_cons]
    omega
  | a :: r, j + 1, f, x, h => by
    have ih := sum_seti r j f x (by simpa using h)
    simp only [List.set_cons_succ, List.sum_cons]
    omega
theorem fell_sum {D : Md} {j : Nat} {f m : Int} (ef : D.fallen[j]? = some f) : (fellD D j (f + m)).fallen.sum = D.fallen.sum + m := by
  show (D.fallen.set j (f + m)).sum = _
  rw [sum_seti _ _ _ _ ef]
  omega
theorem fallAll_sum {zs : List Str} (m : Int) : ∀ (r : List Str) (D : Md), (∀ y ∈ r, y ∈ zs) → D.fallen.length = zs.length → (fallAll zs D r m).fallen.sum = D.fallen.sum + (r.length : Int) * m
  | [], D, _, _ => by
    show D.fallen.sum = _
    simp
  | x :: r, D, sub, lf => by
    have hx := sub x List.mem_cons_self
    have hl : zs.idxOf x < D.fallen.length := by
      rw [lf]
      exact List.idxOf_lt_length_of_mem hx
    rw [fallAll_cons, fallAll_sum m r _ (fun y hy => sub y (List.mem_cons_of_mem _ hy)) (by show (D.fallen.set _ _).length = _; rw [List.length_set]; exact lf), getD_of (List.getElem?_eq_getElem hl), fell_sum (List.getElem?_eq_getElem hl), List.length_cons, Int.natCast_add, Int.add_mul]
    simp
    omega
def wholesD (D : Md) : Int := (D.notes.map wholeN).sum
theorem fallen_le : ∀ {ns : List (List (Str × Int))} {fs : List Int}, fs.length = ns.length → (∀ (j : Nat) (l : List (Str × Int)) (f : Int), ns[j]? = some l → fs[j]? = some f → f ≤ wholeN l) → fs.sum ≤ (ns.map wholeN).sum
  | [], [], _, _ => Int.le_refl _
  | l :: ns, f :: fs, hl, h => by
    have h0 := h 0 l f rfl rfl
    have ih := fallen_le (ns := ns) (fs := fs) (by simpa using hl) fun j l' f' e1 e2 => h (j + 1) l' f' (by simpa using e1) (by simpa using e2)
    simp only [List.map_cons, List.sum_cons]
    omega
  | [], _ :: _, hl, _ => by simp at hl
  | _ :: _, [], hl, _ => by simp at hl
/-- what may yet fall -/
def restD (D : Md) : Nat := (wholesD D - D.fallen.sum).toNat
theorem rest_less {zs : List Str} {D E : Md} (g : Gs zs E) (gb : Gb E) (hn : E.notes = D.notes) (hs : D.fallen.sum < E.fallen.sum) : restD E < restD D := by
  have h1 := fallen_le (ns := E.notes) (fs := E.fallen) (by rw [g.lf, g.ln]) gb.fw
  unfold restD wholesD
  rw [← hn]
  omega
end Rc

namespace Rc
open PySem PySem.Spec PyProof.Rows L2 RZ
/-! ### all rings -/
def ringAt (zs : List Str) (nx : Str → Option Str) (z : Str) : Option (List Str) := match ringM zs nx z with
  | some r => if r.head? = some z then some r else none
  | none => none
def ringsM (zs : List Str) (nx : Str → Option Str) (l : List Str) : List (List Str) := l.filterMap (ringAt zs nx)
theorem ringsM_snoc (zs : List Str) (nx : Str → Option Str) (l : List Str) (z : Str) : ringsM zs nx (l ++ [z]) = ringsM zs nx l ++ (ringAt zs nx z).toList := by
  unfold ringsM
  rw [List.filterMap_append, List.filterMap_cons]
  cases ringAt zs nx z <;> rfl
theorem ring_ne {zs : List Str} {nx : Str → Option Str} {z : Str} {r : List Str} (ld : Leads zs nx) (hz : z ∈ zs) (h : ringM zs nx z = some r) : r ≠ [] := fun c => by
  obtain ⟨tl, eT⟩ := (trail_ended ld hz).first
  have lT : 1 ≤ (trailM zs nx z).length := by
    rw [eT, List.length_cons]
    omega
  unfold ringM at h
  split at h
  · have e := Option.some.inj h
    have e2 := congrArg List.length e
    rw [c, List.length_append, List.length_drop, List.length_take] at e2
    have e3 : ([] : List Str).length = 0 := rfl
    omega
  · cases h
/-- lists of their own, one for each ring -/
def RingsAt (H H' : Hp) (r : Addr) (as : List Addr) (rs : List (List Str)) : Prop := Paired (fun a x => H a = none ∧ a ≠ r ∧ H' a = some (.lst (x.map V.str))) as rs
theorem RingsAt.mono {H H' H2 : Hp} {r : Addr} {as : List Addr} {rs : List (List Str)} (h : RingsAt H H' r as rs) (s : ∀ a (x : List Str), H a = none → a ≠ r → H' a = some (.lst (x.map V.str)) → H2 a = some (.lst (x.map V.str))) : RingsAt H H2 r as rs := by
  unfold RingsAt at h ⊢
  induction h with
  | nil => exact .nil
  | cons a b ih => exact .cons ⟨a.1, a.2.1, s _ _ a.1 a.2.1 a.2.2⟩ ih
section
variable {P : Program} {w : World} {K : PySem.W.Frag} {mg : Str → Option Value} {base : Heap}
abbrev sRgS : Stmt := topS 32
abbrev nRgS : List Str := ["dues", "rings", "who", "ring"]
theorem scRgS : FnScope nRgS ["dues"] (defScope sRgS) := ⟨rfl, rfl, rfl, by decide +kernel, rfl, by decide +kernel, by decide +kernel⟩
def spRgS (K : PySem.W.Frag) : Sp := fun vs H Q _ => ∃ (d : Addr) (zs : List Str) (os : List (Option (Str × Int))), vs = [.ref d] ∧ DuesU K H d zs os ∧ Walks zs os ∧
  ∀ r as H', Same H H' → H r = none → H' r = some (.lst (List.map V.ref as)) → RingsAt H H' r as (ringsM zs (nxOf zs os) zs) → Q (.ref r) H'
theorem ok_rgS {f f1 : Addr} {fd fd1 : FuncData} (F : Fun K "rings_by" "rings_by" sRgS f fd) (RB : Has P w K mg base 2 "ring_by" ["dues", "who"] (spRgB K) f1 fd1) : FnOk P w K mg base CX0 3 f fd ["dues"] (spRgS K) := by
  refine F.ok scRgS (fun vs H Q E h => ?_) (fun cdv A outer s H vs Q E hr h => ?_)
  · obtain ⟨_, _, _, rfl, _⟩ := h
    rfl
  · obtain ⟨d, zs, os, rfl, hd, wk, q⟩ := h
    refine ⟨_, pss_cons (ps_set (i := 1) scRgS.nd rfl (.inl rfl) (pe_lst pa_nil))
      (pss_cons (ps_lock (ps_for PassesOwn.never rfl (pi_keys (pv 0)) (pg_name (i := 2) scRgS.nd rfl (.inl rfl))
        (pss_cons (ps_set (i := 3) scRgS.nd rfl (.inl rfl) (pe_call RB.ok hr (by rfl) RB.g RB.kp RB.b .nil pass0 (pa_cons (pv 0) (pa_cons (pv 2) pa_nil))))
        (pss_one (ps_if (PW.pt (pw_and (pt_cmpR op_notN (pv 3) pe_non (nomark _)) (pw_and1 (pt_cmpR op_eq (pe_ix ix_list (pv 3) pe_int (fun _ _ => rfl)) (pv 2) (nomark _)))))
          (pss_one (ps_expr (pe_bm PySem.F.plainAttrs_list PySem.F.slot_list_append PySem.F.type_list_append mt_append (pv 1) (pa_cons (pv 3) pa_nil)))) pss_nil)))))
      (pss_one (ps_ret (pv 1)))), ?_⟩
    refine ⟨Nat.zero_le _, fun r nr => ?_⟩
    have s0 := same_upd (o := .lst []) nr
    have hr0 : upd H r (.lst []) r = some (.lst []) := upd_same
    generalize upd H r (.lst []) = H0 at s0 hr0
    obtain ⟨vs, hdv, dvs⟩ := (hd.same s0).ex
    have lv : vs.length = zs.length := by
      rw [dvs.len, List.length_map, wk.lo]
    have lk : (dct zs vs).length = zs.length := dct_len lv
    have rd' : r ≠ d := fun c => by
      rw [c, hdv] at hr0
      cases hr0
    refine ⟨d, _, hdv, trivial, fun od => ?_⟩
    have hdL : upd H0 d (.frz od (.dK (dct zs vs))) d = some (.frz od (.dK (dct zs vs))) := upd_same
    have hrL : upd H0 d (.frz od (.dK (dct zs vs))) r = some (.lst []) := by
      rw [upd_ne rd']
      exact hr0
    have dvL : DtAll K (upd H0 d (.frz od (.dK (dct zs vs)))) vs (os.map dueD) := DtAll.keepT (kt_upd hdv fun z => z) _ (tupDs_map tup_due _) dvs
    have oldL : ∀ c o, H c = some o → c ≠ d → upd H0 d (.frz od (.dK (dct zs vs))) c = some o := fun c o e n => by
      rw [upd_ne n]
      exact s0 c o e
    generalize upd H0 d (.frz od (.dK (dct zs vs))) = HL at hdL hrL dvL oldL
    refine ⟨.ref d, rfl, d, od, rfl, .inl ⟨_, hdL, ?_⟩⟩
    refine for_it (walk_keys (kvs := dct zs vs)) (fun i σ H' => ∃ (as : List Addr) (y2 y3 : Option V), σ = [some (.ref d), some (.ref r), y2, y3] ∧ H' d = some (.frz od (.dK (dct zs vs))) ∧ DtAll K H' vs (os.map dueD) ∧ (∀ c o, H c = some o → c ≠ d → H' c = some o) ∧ H' r = some (.lst (as.map V.ref)) ∧ RingsAt H H' r as (ringsM zs (nxOf zs os) (zs.take i)) ∧ as.length ≤ i)
      ⟨[], _, _, rfl, hdL, dvL, oldL, hrL, .nil, Nat.le_refl _⟩ (fun i σ H' _ hP => ?_) (fun i x σ H1' H1 hi hP hY => ?_) (fun σ H1 hP => ?_)
    · obtain ⟨_, _, _, _, e, _⟩ := hP
      exact e
    · obtain ⟨rfl, k, v, ek, rfl⟩ := hY
      obtain ⟨as, y2, y3, rfl, hd1, dv1, old1, hr1, ra1, la1⟩ := hP
      rw [lk] at hi
      have hiv : i < vs.length := by omega
      have ek2 : (dct zs vs)[i]? = some (Sum.inr zs[i], vs[i]) := by
        unfold dct
        rw [List.getElem?_map, List.getElem?_zip_eq_some (z := (zs[i], vs[i])) |>.mpr ⟨List.getElem?_eq_getElem hi, List.getElem?_eq_getElem hiv⟩]
        rfl
      rw [ek2] at ek
      cases ek
      have hz : zs[i] ∈ zs := List.getElem_mem hi
      have tk := take_succ hi
      generalize zs[i] = z at hz tk
      have lz := wk.lz
      refine ⟨.ref d, rfl, .str z, rfl, d, z, zs, os, rfl, ⟨vs, .inr ⟨od, hd1⟩, dv1⟩, wk, hz, fun v H2 s2 rv => ?_⟩
      have hd2 := s2 _ _ hd1
      have dv2 := DtAll.same s2 _ dv1
      have old2 : ∀ c o, H c = some o → c ≠ d → H2 c = some o := fun c o e n => s2 _ _ (old1 c o e n)
      have hr2 := s2 _ _ hr1
      have ra2 : RingsAt H H2 r as (ringsM zs (nxOf zs os) (zs.take i)) := ra1.mono fun a x _ _ e => s2 _ _ e
      have tk2 := ringsM_snoc zs (nxOf zs os) (zs.take i) z
      rw [← tk] at tk2
      cases hR : ringM zs (nxOf zs os) z with
      | none =>
        rw [hR] at rv
        have ev : v = .non := rv
        subst ev
        have e0 : ringAt zs (nxOf zs os) z = none := by
          unfold ringAt
          rw [hR]
        rw [e0] at tk2
        refine ⟨.non, rfl, rfl, _, rfl, ?_⟩
        rw [decide_eq_true rfl]
        refine iteF (iteF ⟨as, _, _, rfl, hd2, dv2, old2, hr2, ?_, by omega⟩)
        rw [tk2, Option.toList_none, List.append_nil]
        exact ra2
      | some rr =>
        have ne := ring_ne wk.ld hz hR
        rw [hR] at rv
        obtain ⟨a, rfl, na, ha⟩ := rv
        have nar : a ≠ r := (ne_of_none hr1 na).symm
        have nad : a ≠ d := (ne_of_none hd1 na).symm
        have naH : H a = none := by
          cases e : H a with
          | none => rfl
          | some o =>
            rw [old1 a o e nad] at na
            cases na
        refine ⟨.ref a, rfl, rfl, _, rfl, ?_⟩
        rw [decide_eq_false (fun c => by cases c)]
        cases rr with
        | nil => exact absurd rfl ne
        | cons x rs =>
          refine iteT ⟨.ref a, rfl, a, _, 0, .str x, rfl, rfl, .inl (.inl ha), atI_nat (j := 0) rfl, .str z, rfl, rfl, _, rfl, ?_⟩
          by_cases hx : x = z
          · have e0 : ringAt zs (nxOf zs os) z = some (x :: rs) := by
              unfold ringAt
              rw [hR]
              exact if_pos (congrArg some hx)
            rw [e0] at tk2
            rw [show decide (V.str x = V.str z) = true from decide_eq_true (by rw [hx])]
            refine iteT ⟨.ref r, rfl, .inl ⟨rfl, _, .inl (.inl hr2)⟩, .ref a, rfl, r, _, _, rfl, rfl, hr2, by rw [List.length_map]; exact small1000 (by omega), ?_⟩
            have rdn : d ≠ r := fun c => rd' c.symm
            refine ⟨as ++ [a], _, _, rfl, by rw [upd_ne rdn]; exact hd2, DtAll.keepT (kt_upd hr2 fun z => z) _ (tupDs_map tup_due _) dv2, fun c o e n => ?_, by rw [upd_same, List.map_append]; rfl, ?_, by rw [List.length_append]; exact Nat.add_le_add_right la1 1⟩
            · rw [upd_ne (ne_of_none e nr)]
              exact old2 c o e n
            · rw [tk2]
              refine Paired.snoc (ra2.mono fun a x _ n e => by rw [upd_ne n]; exact e) ⟨naH, nar, ?_⟩
              rw [upd_ne nar]
              exact ha
          · have e0 : ringAt zs (nxOf zs os) z = none := by
              unfold ringAt
              rw [hR]
              exact if_neg (fun c => hx (Option.some.inj c))
            rw [e0] at tk2
            rw [show decide (V.str x = V.str z) = false from decide_eq_false (fun c => hx (V.str.inj c))]
            refine iteF ⟨as, _, _, rfl, hd2, dv2, old2, hr2, ?_, by omega⟩
            rw [tk2, Option.toList_none, List.append_nil]
            exact ra2
    · obtain ⟨as, y2, y3, rfl, hd1, dv1, old1, hr1, ra1, la1⟩ := hP
      rw [lk, List.take_length] at ra1
      obtain ⟨vs', hH, _⟩ := hd.ex
      have eH := s0 _ _ hH
      refine ⟨hd1, .ref r, rfl, q r as (upd H1 d (.dK (dct zs vs))) (fun c o e => ?_) nr (by rw [upd_ne rd']; exact hr1) (ra1.mono fun a x n _ e => ?_)⟩
      · by_cases hc : c = d
        · subst hc
          rw [s0 _ _ e] at hdv
          rw [upd_same]
          exact hdv.symm
        · rw [upd_ne hc]
          exact old1 c o e hc
      · rw [upd_ne (ne_of_none hH n).symm]
        exact e
end
end Rc

namespace Rc
open PySem PySem.Spec PyProof.Rows L2 RZ
theorem left_fall : ∀ {l : List (Str × Int)} {f m b : Int} {t : Str} {r : List (Str × Int)}, (∀ n ∈ l, 1 ≤ n.2) → 0 ≤ f → 0 ≤ m → m ≤ b → leftN l f = (t, b) :: r → leftN l (f + m) = (if m < b then [(t, b - m)] else []) ++ r
  | [], _, _, _, _, _, _, _, _, _, e => by cases e
  | (t0, a) :: l, f, m, b, t, r, hn, f0, m0, mb, e => by
    have ha : 1 ≤ a := hn (t0, a) List.mem_cons_self
    rw [leftN_cons] at e
    by_cases hp : partOf a f < a
    · have hf : f < a := by
        unfold partOf at hp
        split at hp <;> omega
      have ep : partOf a f = f := by
        unfold partOf
        rw [if_pos hf]
      rw [ep, if_pos hf] at e
      have e1 : (t0, a - f) = (t, b) := (List.cons.inj e).1
      have e2 : leftN l (f - f) = r := (List.cons.inj e).2
      have et : t0 = t := congrArg Prod.fst e1
      have eb : a - f = b := congrArg Prod.snd e1
      rw [leftN_cons]
      by_cases hm : m < b
      · have ep2 : partOf a (f + m) = f + m := by
          unfold partOf
          rw [if_pos (by omega)]
        rw [ep2, if_pos (by omega), if_pos hm, ← e2, et, show a - (f + m) = b - m by omega, show f + m - (f + m) = f - f by omega]
      · have ep2 : partOf a (f + m) = a := by
          unfold partOf
          rw [if_neg (by omega)]
        rw [ep2, if_neg (by omega), if_neg hm, ← e2, show f + m - a = f - f by omega]
    · have hf : a ≤ f := by
        unfold partOf at hp
        split at hp <;> omega
      have ep : partOf a f = a := by
        unfold partOf
        rw [if_neg (by omega)]
      have ep2 : partOf a (f + m) = a := by
        unfold partOf
        rw [if_neg (by omega)]
      rw [ep, if_neg (by omega), List.nil_append] at e
      rw [leftN_cons, ep2, if_neg (by omega), List.nil_append, show f + m - a = (f - a) + m by omega]
      exact left_fall (fun n h => hn n (List.mem_cons_of_mem _ h)) (by omega) m0 mb e
theorem fallAll_perm {zs : List Str} {D : Md} {r r' : List Str} {m : Int} (nd : zs.Nodup) (lf : D.fallen.length = zs.length) (nr : r.Nodup) (nr' : r'.Nodup) (sub : ∀ y ∈ r, y ∈ zs) (mem : ∀ y, y ∈ r ↔ y ∈ r') : fallAll zs D r m = fallAll zs D r' m := by
  obtain ⟨a, b, c⟩ := fallAll_keeps zs m r D
  obtain ⟨a', b', c'⟩ := fallAll_keeps zs m r' D
  refine md_ext (a.trans a'.symm) (List.ext_getElem? fun i => ?_) (b.trans b'.symm)
  by_cases hi : i < zs.length
  · have hf : i < D.fallen.length := by omega
    rw [fallAll_at nd m r D nr sub lf i _ _ (List.getElem?_eq_getElem hi) (List.getElem?_eq_getElem hf), fallAll_at nd m r' D nr' (fun y hy => sub y ((mem y).mpr hy)) lf i _ _ (List.getElem?_eq_getElem hi) (List.getElem?_eq_getElem hf)]
    simp only [mem]
  · rw [List.getElem?_eq_none (by omega), List.getElem?_eq_none (by omega)]
theorem fallAll_twice {zs : List Str} {D : Md} {r : List Str} {m k : Int} (nd : zs.Nodup) (lf : D.fallen.length = zs.length) (nr : r.Nodup) (sub : ∀ y ∈ r, y ∈ zs) : fallAll zs (fallAll zs D r m) r k = fallAll zs D r (m + k) := by
  obtain ⟨a, b, c⟩ := fallAll_keeps zs m r D
  obtain ⟨a1, b1, c1⟩ := fallAll_keeps zs k r (fallAll zs D r m)
  obtain ⟨a', b', c'⟩ := fallAll_keeps zs (m + k) r D
  refine md_ext (a1.trans (a.trans a'.symm)) (List.ext_getElem? fun i => ?_) (b1.trans (b.trans b'.symm))
  by_cases hi : i < zs.length
  · have hf : i < D.fallen.length := by omega
    have e1 := fallAll_at nd m r D nr sub lf i _ _ (List.getElem?_eq_getElem hi) (List.getElem?_eq_getElem hf)
    rw [fallAll_at nd k r _ nr sub (c.trans lf) i _ _ (List.getElem?_eq_getElem hi) e1, fallAll_at nd (m + k) r D nr sub lf i _ _ (List.getElem?_eq_getElem hi) (List.getElem?_eq_getElem hf)]
    congr 1
    split <;> omega
  · rw [List.getElem?_eq_none (by omega), List.getElem?_eq_none (by omega)]
/-- weavings -/
inductive Wv : Bk → List (Str × Str × Int) → Bk → Prop
  | nil (M : Bk) : Wv M [] M
  | pay {M N : Bk} {z : Str} {j : Nat} {m : Int} {W : List (Str × Str × Int)} (ok : M.Ok) (ej : M.names[j]? = some z) (m1 : 1 ≤ m) (mm : m ≤ mostP M j z) (fo : FallOk M [(z, m)]) (h : Wv (fallM M [(z, m)]) W N) : Wv M (("pay", z, m) :: W) N
  | clear {M N : Bk} {z : Str} {m : Int} {r : List Str} {W : List (Str × Str × Int)} (co : ClearOk M z m r) (h : Wv (fallM M (r.map fun x => (x, m))) W N) : Wv M (("clear", z, m) :: W) N
theorem Wv.app {M N O : Bk} {W V' : List (Str × Str × Int)} (h : Wv M W N) (h' : Wv N V' O) : Wv M (W ++ V') O := by
  induction h with
  | nil => exact h'
  | pay ok ej m1 mm fo h ih => exact .pay ok ej m1 mm fo (ih h')
  | clear co h ih => exact .clear co (ih h')
/-- a round of persons whose due notes are no less than c -/
structure Ro (zs : List Str) (D : Md) (as : List Str) (c : Int) : Prop where
  g : Gs zs D
  gb : Gb D
  nd : as.Nodup
  sub : ∀ y ∈ as, y ∈ zs
  l0 : 0 < as.length
  rd : Round (nxD zs D) as
  amt : ∀ y ∈ as, c ≤ amtAt zs (duesM (bkOf zs D)) y
theorem mem_rd {as : List Str} {y : Str} (h : y ∈ as) : ∃ i, i < as.length ∧ y = rd as i := by
  obtain ⟨i, hi, e⟩ := List.getElem_of_mem h
  refine ⟨i, hi, ?_⟩
  have := rd_at hi
  rw [List.getElem?_eq_getElem hi] at this
  rw [← e]
  exact Option.some.inj this
theorem Ro.du {zs : List Str} {D : Md} {as : List Str} {c : Int} (h : Ro zs D as c) : DuesOf zs D (nxD zs D) c as := fun x hx => by
  have g := h.g
  have hxz := h.sub x hx
  obtain ⟨i, _, rfl⟩ := mem_rd hx
  have ht := h.rd i
  have hj : zs.idxOf (Rc.rd as i) < zs.length := List.idxOf_lt_length_of_mem hxz
  have h1 : zs.idxOf (Rc.rd as i) < D.notes.length := by rw [g.ln]; exact hj
  have h2 : zs.idxOf (Rc.rd as i) < D.fallen.length := by rw [g.lf]; exact hj
  have el := List.getElem?_eq_getElem h1
  have ef := List.getElem?_eq_getElem h2
  have hnx := ht
  rw [nxD_at g.nz.nd (idx_get hxz) el ef] at hnx
  cases hL : leftN D.notes[zs.idxOf (Rc.rd as i)] D.fallen[zs.idxOf (Rc.rd as i)] with
  | nil =>
    rw [hL] at hnx
    cases hnx
  | cons n rest =>
    obtain ⟨t', b⟩ := n
    rw [hL] at hnx
    have e1 : t' = Rc.rd as (i + 1) := Option.some.inj hnx
    subst e1
    have ea : amtAt zs (duesM (bkOf zs D)) (Rc.rd as i) = b := by
      unfold amtAt
      have eo : (duesM (bkOf zs D)).getD (zs.idxOf (Rc.rd as i)) none = (leftN D.notes[zs.idxOf (Rc.rd as i)] D.fallen[zs.idxOf (Rc.rd as i)]).head? := getD_of (dues_at (M := bkOf zs D) el ef)
      rw [eo, hL]
      rfl
    have hb := h.amt _ hx
    rw [ea] at hb
    exact ⟨_, _, _, b, rest, el, ef, fun n hn => (g.nt _ (List.getElem_mem h1) n hn).2.1, g.fl _ (List.getElem_mem h2), hL, hb, ht⟩
theorem Ro.mono {zs : List Str} {D : Md} {as : List Str} {c m : Int} (h : Ro zs D as c) (hm : m ≤ c) : Ro zs D as m := ⟨h.g, h.gb, h.nd, h.sub, h.l0, h.rd, fun y hy => Int.le_trans hm (h.amt y hy)⟩
/-- the round from one of them on -/
def rot (as : List Str) (k : Nat) : List Str := as.drop k ++ as.take k
theorem rot_perm (as : List Str) (k : Nat) : (rot as k).Perm as := by
  have := List.perm_append_comm (l₁ := as.drop k) (l₂ := as.take k)
  rw [List.take_append_drop] at this
  exact this
theorem rot_round {nx : Str → Option Str} {as : List Str} {k : Nat} (hk : k < as.length) (h : Round nx as) : Round nx (rot as k) := fun i => by
  unfold rot
  rw [rot_rd hk, rot_rd hk]
  exact h (k + i)
theorem rot_zero {as : List Str} {k : Nat} (hk : k < as.length) : rd (rot as k) 0 = rd as k := by
  unfold rot
  rw [rot_rd hk, Nat.add_zero]
theorem Ro.rot {zs : List Str} {D : Md} {as : List Str} {c : Int} (h : Ro zs D as c) {k : Nat} (hk : k < as.length) : Ro zs D (rot as k) c := by
  have pm := rot_perm as k
  exact ⟨h.g, h.gb, pm.symm.nodup h.nd, fun y hy => h.sub y (pm.mem_iff.mp hy), by rw [pm.length_eq]; exact h.l0, rot_round hk h.rd, fun y hy => h.amt y (pm.mem_iff.mp hy)⟩
theorem Ro.trail {zs : List Str} {D : Md} {as : List Str} {c : Int} (h : Ro zs D as c) : trailM zs (nxD zs D) (Rc.rd as 0) = as := round_trail h.g.walks.ld h.nd h.l0 (h.sub _ (rd_mem h.l0 0)) h.rd
theorem Ro.ring0 {zs : List Str} {D : Md} {as : List Str} {c : Int} (h : Ro zs D as c) : ringM zs (nxD zs D) (Rc.rd as 0) = some (as.drop (as.idxOf (firstM zs as)) ++ as.take (as.idxOf (firstM zs as))) := by
  obtain ⟨r, hR⟩ := round_ring h.g.walks.ld h.nd h.l0 (h.sub _ (rd_mem h.l0 0)) h.rd
  have ht := h.trail
  have hR2 := hR
  unfold ringM at hR
  split at hR
  · rw [ht] at hR
    exact hR2.trans hR.symm
  · cases hR
theorem Ro.ring {zs : List Str} {D : Md} {as : List Str} {c : Int} (h : Ro zs D as c) {z : Str} (hz : z ∈ as) : ∃ r, ringM zs (nxD zs D) z = some r ∧ r.Perm as := by
  obtain ⟨k, hk, rfl⟩ := mem_rd hz
  have hr := (h.rot hk).ring0
  rw [rot_zero hk] at hr
  refine ⟨_, hr, ?_⟩
  generalize (Rc.rot as k).idxOf (firstM zs (Rc.rot as k)) = j
  exact (rot_perm (Rc.rot as k) j).trans (rot_perm as k)
theorem Ro.clear {zs : List Str} {D : Md} {as : List Str} {m : Int} (h : Ro zs D as m) (m1 : 1 ≤ m) {z : Str} (hz : z ∈ as) :
    ∃ r, ClearOk (bkOf zs D) z m r ∧ fallM (bkOf zs D) (r.map fun x => (x, m)) = bkOf zs (fallAll zs D as m) ∧ Gs zs (fallAll zs D as m) ∧ Gb (fallAll zs D as m) := by
  obtain ⟨r, hR, pm⟩ := h.ring hz
  have hzz := h.sub z hz
  have ne : r.map (amtAt zs (duesM (bkOf zs D))) ≠ [] := fun c => by
    have e := List.map_eq_nil_iff.mp c
    have := pm.length_eq
    rw [e] at this
    have := h.l0
    simp at *
    omega
  have hm : m ≤ leastI (r.map (amtAt zs (duesM (bkOf zs D)))) := by
    obtain ⟨h1, _⟩ := least_mem ne
    obtain ⟨y, hy, e⟩ := List.mem_map.mp h1
    rw [← e]
    exact h.amt y (pm.mem_iff.mp hy)
  obtain ⟨g2, gb2, fo, nr, sub⟩ := clear_ok h.g h.gb hzz m1 hR hm
  have ep : fallAll zs D r m = fallAll zs D as m := fallAll_perm h.g.nz.nd h.g.lf nr h.nd sub fun y => pm.mem_iff
  rw [ep] at g2 gb2
  refine ⟨r, ⟨h.g.ok, h.g.closed, hzz, m1, hR, hm, nr, fo⟩, ?_, g2, gb2⟩
  rw [fallAll_eq h.g.nz.nd h.g.lf nr sub, ep]
theorem Ro.at {zs : List Str} {D : Md} {as : List Str} {c m : Int} (h : Ro zs D as c) {y : Str} (hy : y ∈ as) {f : Int} (ef : D.fallen[zs.idxOf y]? = some f) : (fallAll zs D as m).fallen[zs.idxOf y]? = some (f + m) := by
  rw [fallAll_at h.g.nz.nd m as D h.nd h.sub h.g.lf _ y f (idx_get (h.sub y hy)) ef, if_pos hy]
/-- what stays of it -/
theorem Ro.stay {zs : List Str} {D : Md} {as : List Str} {c m : Int} (h : Ro zs D as c) (m1 : 1 ≤ m) (mc : m < c) : Ro zs (fallAll zs D as m) as (c - m) := by
  obtain ⟨_, _, _, g2, gb2⟩ := (h.mono (Int.le_of_lt mc)).clear m1 (rd_mem h.l0 0)
  obtain ⟨_, kn, _⟩ := fallAll_keeps zs m as D
  have st : ∀ y ∈ as, ∃ t b rest l f, D.notes[zs.idxOf y]? = some l ∧ (fallAll zs D as m).fallen[zs.idxOf y]? = some (f + m) ∧ leftN l (f + m) = (t, b - m) :: rest ∧ c ≤ b ∧ nxD zs D y = some t := fun y hy => by
    obtain ⟨l, f, t, b, rest, el, ef, hn, f0, eL, cb, ht⟩ := h.du y hy
    refine ⟨t, b, rest, l, f, el, h.at hy ef, ?_, cb, ht⟩
    rw [left_fall hn f0 (by omega) (by omega) eL, if_pos (by omega)]
    rfl
  refine ⟨g2, gb2, h.nd, h.sub, h.l0, fun i => ?_, fun y hy => ?_⟩
  · have hy := rd_mem h.l0 i
    obtain ⟨t, b, rest, l, f, el, ef, eL, cb, ht⟩ := st _ hy
    have el2 : (fallAll zs D as m).notes[zs.idxOf (Rc.rd as i)]? = some l := by rw [kn]; exact el
    rw [nxD_at h.g.nz.nd (idx_get (h.sub _ hy)) el2 ef, eL]
    have := h.rd i
    rw [ht] at this
    rw [← this]
    rfl
  · obtain ⟨t, b, rest, l, f, el, ef, eL, cb, ht⟩ := st _ hy
    have el2 : (fallAll zs D as m).notes[zs.idxOf y]? = some l := by rw [kn]; exact el
    have eo : (duesM (bkOf zs (fallAll zs D as m))).getD (zs.idxOf y) none = (leftN l (f + m)).head? := getD_of (dues_at (M := bkOf zs (fallAll zs D as m)) el2 ef)
    unfold amtAt
    rw [eo, eL]
    show c - m ≤ b - m
    omega
theorem Ro.cash {zs : List Str} {D : Md} {as : List Str} {m : Int} (h : Ro zs D as m) (m0 : 0 ≤ m) (i : Nat) (y : Str) (ei : zs[i]? = some y) : cashM (bkOf zs (fallAll zs D as m)) i y = cashM (bkOf zs D) i y := by
  obtain ⟨r, hR, pm⟩ := h.ring (rd_mem h.l0 0)
  obtain ⟨p, _, _, _⟩ := ring_perm h.g.walks.ld (h.sub _ (rd_mem h.l0 0)) hR
  have p2 : (as.map (nxD zs D)).Perm (as.map some) := ((pm.map _).symm.trans p).trans (pm.map _)
  rw [fallAll_cash h.g.nz.nd m0 as D h.nd h.sub h.du i y ei, ring_count p2 h.nd y]
  by_cases hy : y ∈ as
  · rw [if_pos hy, if_pos hy]
    simp
  · rw [if_neg hy, if_neg hy]
    simp
/-- paid round: from one who has as much -/
theorem Ro.pays {zs : List Str} {D : Md} {as : List Str} {m : Int} (h : Ro zs D as m) (m1 : 1 ≤ m) (hc : m ≤ cashM (bkOf zs D) (zs.idxOf (Rc.rd as 0)) (Rc.rd as 0)) : Wv (bkOf zs D) (as.map fun y => ("pay", y, m)) (bkOf zs (fallAll zs D as m)) := by
  have lz := h.g.nz.nd
  -- one step
  have step : ∀ j (hj : j < as.length), Gs zs (fallAll zs D (as.take j) m) → Gb (fallAll zs D (as.take j) m) →
      Gs zs (fallAll zs D (as.take (j + 1)) m) ∧ Gb (fallAll zs D (as.take (j + 1)) m) ∧ (bkOf zs (fallAll zs D (as.take j) m)).Ok ∧ m ≤ mostP (bkOf zs (fallAll zs D (as.take j) m)) (zs.idxOf as[j]) as[j] ∧ FallOk (bkOf zs (fallAll zs D (as.take j) m)) [(as[j], m)] ∧
        fallM (bkOf zs (fallAll zs D (as.take j) m)) [(as[j], m)] = bkOf zs (fallAll zs D (as.take (j + 1)) m) := fun j hj g gb => by
    have hm := List.getElem_mem hj
    have hz := h.sub _ hm
    obtain ⟨l, f, t, b, rest, el, ef, hn, f0, eL, cb, ht⟩ := h.du _ hm
    obtain ⟨_, kn, _⟩ := fallAll_keeps zs m (as.take j) D
    have sub2 : ∀ y ∈ as.take j, y ∈ zs := fun y hy => h.sub y (List.mem_of_mem_take hy)
    have nd2 : (as.take j).Nodup := h.nd.sublist (List.take_sublist _ _)
    have nin : as[j] ∉ as.take j := fun z => by
      obtain ⟨k, hk, e⟩ := List.getElem_of_mem z
      rw [List.length_take] at hk
      rw [List.getElem_take] at e
      have := (List.getElem_inj h.nd).mp e
      omega
    have ef2 : (fallAll zs D (as.take j) m).fallen[zs.idxOf as[j]]? = some f := by
      rw [fallAll_at lz m (as.take j) D nd2 sub2 h.g.lf _ _ f (idx_get hz) ef, if_neg nin, Int.add_zero]
    have el2 : (fallAll zs D (as.take j) m).notes[zs.idxOf as[j]]? = some l := by rw [kn]; exact el
    have cs : m ≤ cashM (bkOf zs (fallAll zs D (as.take j) m)) (zs.idxOf as[j]) as[j] := by
      have du2 : DuesOf zs D (nxD zs D) m (as.take j) := fun x hx => h.du x (List.mem_of_mem_take hx)
      rw [fallAll_cash lz (by omega) (as.take j) D nd2 sub2 du2 _ _ (idx_get hz), if_neg nin]
      cases j with
      | zero =>
        have e0 : as[0] = Rc.rd as 0 := by
          have := rd_at hj
          rw [List.getElem?_eq_getElem hj] at this
          exact Option.some.inj this
        rw [← e0] at hc
        simp
        exact hc
      | succ j =>
        have c0 := h.g.cs _ _ (idx_get hz)
        have hlt : j < as.length := by omega
        have hin : as[j] ∈ (as.take (j + 1)).filter fun x => decide (nxD zs D x = some as[j + 1]) := by
          refine List.mem_filter.mpr ⟨?_, decide_eq_true ?_⟩
          · rw [take_succ hlt]
            exact List.mem_append_right _ (List.mem_singleton.mpr rfl)
          · have e1 := rd_at hlt
            have e2 := rd_at hj
            rw [List.getElem?_eq_getElem hlt] at e1
            rw [List.getElem?_eq_getElem hj] at e2
            rw [Option.some.inj e1, Option.some.inj e2]
            exact h.rd j
        have hlen := List.length_pos_of_mem hin
        generalize ((as.take (j + 1)).filter fun x => decide (nxD zs D x = some as[j + 1])).length = n at hlen
        have : m * 1 ≤ m * (n : Int) := Int.mul_le_mul_of_nonneg_left (by omega) (by omega)
        omega
    obtain ⟨g3, fo⟩ := g.fall (idx_get hz) el2 ef2 eL (by omega) cb (.inr cs)
    obtain ⟨w1, _⟩ := fall_one hn f0 (by omega) cb eL
    have eD : fallAll zs D (as.take (j + 1)) m = fellD (fallAll zs D (as.take j) m) (zs.idxOf as[j]) (f + m) := by
      rw [take_succ hj]
      unfold fallAll
      rw [List.foldl_append]
      show fellD _ _ (_ + m) = _
      have e2 : (List.foldl (fun D y => fellD D (zs.idxOf y) (D.fallen.getD (zs.idxOf y) 0 + m)) D (as.take j)).fallen.getD (zs.idxOf as[j]) 0 = f := getD_of ef2
      rw [e2]
    refine ⟨by rw [eD]; exact g3, by rw [eD]; exact gb.fell el2 w1, g.ok, ?_, fo, ?_⟩
    · have eo : (duesM (bkOf zs (fallAll zs D (as.take j) m))).getD (zs.idxOf as[j]) none = some (t, b) := by
        rw [getD_of (dues_at (M := bkOf zs (fallAll zs D (as.take j) m)) el2 ef2), eL]
        rfl
      rw [mostP_some eo]
      split <;> omega
    · rw [eD]
      exact fell_eq lz g.lf (idx_get hz) ef2
  have good : ∀ j, j ≤ as.length → Gs zs (fallAll zs D (as.take j) m) ∧ Gb (fallAll zs D (as.take j) m) := fun j => by
    induction j with
    | zero => exact fun _ => ⟨h.g, h.gb⟩
    | succ j ih =>
      intro hj
      obtain ⟨a, b⟩ := ih (by omega)
      obtain ⟨c, d, _⟩ := step j (by omega) a b
      exact ⟨c, d⟩
  have all : ∀ k j, j + k = as.length → Wv (bkOf zs (fallAll zs D (as.take j) m)) ((as.drop j).map fun y => ("pay", y, m)) (bkOf zs (fallAll zs D as m)) := fun k => by
    induction k with
    | zero =>
      intro j hj
      rw [List.drop_of_length_le (by omega), List.take_of_length_le (by omega)]
      exact .nil _
    | succ k ih =>
      intro j hj
      have hlt : j < as.length := by omega
      obtain ⟨a, b⟩ := good j (by omega)
      obtain ⟨_, _, ok, mm, fo, e⟩ := step j hlt a b
      rw [List.drop_eq_getElem_cons hlt, List.map_cons]
      refine .pay ok (idx_get (h.sub _ (List.getElem_mem hlt))) m1 mm fo ?_
      rw [e]
      exact ih (j + 1) (by omega)
  exact all as.length 0 (by omega)
end Rc

namespace Rc
open PySem PySem.Spec PyProof.Rows L2 RZ
def StAt (H : Hp) (v : V) (p : Str × Str × Int) : Prop := ∃ a, v = .ref a ∧ H a = some (.tup [.str p.1, .str p.2.1, .int p.2.2])
def StsAt (H : Hp) (xs : List V) (W : List (Str × Str × Int)) : Prop := xs.length = W.length ∧ ∀ (i : Nat) (x : V) (p : Str × Str × Int), xs[i]? = some x → W[i]? = some p → StAt H x p
theorem StAt.kt {H H' : Hp} {v : V} {p : Str × Str × Int} (h : StAt H v p) (k : KT H H') : StAt H' v p := by
  obtain ⟨a, e, h⟩ := h
  exact ⟨a, e, k _ _ h trivial⟩
theorem StsAt.kt {H H' : Hp} {xs : List V} {W : List (Str × Str × Int)} (h : StsAt H xs W) (k : KT H H') : StsAt H' xs W := ⟨h.1, fun i x p e1 e2 => (h.2 i x p e1 e2).kt k⟩
theorem StsAt.app {H : Hp} {xs ys : List V} {W V' : List (Str × Str × Int)} (h : StsAt H xs W) (h' : StsAt H ys V') : StsAt H (xs ++ ys) (W ++ V') := by
  refine ⟨by rw [List.length_append, List.length_append, h.1, h'.1], fun i x p e1 e2 => ?_⟩
  have l := h.1
  by_cases hi : i < xs.length
  · rw [List.getElem?_append_left hi] at e1
    rw [List.getElem?_append_left (by omega)] at e2
    exact h.2 i x p e1 e2
  · rw [List.getElem?_append_right (by omega)] at e1
    rw [List.getElem?_append_right (by omega)] at e2
    rw [l] at e1
    exact h'.2 _ x p e1 e2
theorem StsAt.one {H : Hp} {t : Addr} {p : Str × Str × Int} (h : H t = some (.tup [.str p.1, .str p.2.1, .int p.2.2])) : StsAt H [.ref t] [p] := by
  refine ⟨rfl, fun i x q e1 e2 => ?_⟩
  cases i with
  | zero =>
    cases e1
    cases e2
    exact ⟨t, rfl, h⟩
  | succ i => cases e1
end Rc

namespace Rc
open PySem PySem.Spec PyProof.Rows L2 RZ
theorem fnOr {P : Program} {w : World} {K : PySem.W.Frag} {mg : Str → Option Value} {base : Heap} {CX : CXT} {k : Nat} {f : Addr} {fd : FuncData} {ps : List Str} {sp sp' : Sp} (F : FnOk P w K mg base CX k f fd ps sp) (G : FnOk P w K mg base CX k f fd ps sp') :
    FnOk P w K mg base CX k f fd ps (fun vs H Q E => sp vs H Q E ∨ sp' vs H Q E) :=
  ⟨fun vs H Q E h => h.elim (F.len vs H Q E) (G.len vs H Q E), fun A outer s H args us vs Q E hr he hb hv hs => hs.elim (F.run A outer s H args us vs Q E hr he hb hv) (G.run A outer s H args us vs Q E hr he hb hv)⟩
/-! ### == of equal books -/
def rEq1 (K : PySem.W.Frag) (C : Addr) : R2 := fun x y H Q => ∃ a b M, x = .ref a ∧ y = .ref b ∧ BookAt K C H a M ∧ BookAt K C H b M ∧ KeyOk M ∧ ∀ H', Same H H' → Q (.bl true) H'
theorem op_eqB1 {X : Cx} {C f : Addr} {fd : FuncData} {K : PySem.W.Frag} (eK : X.K = K) (G : FnOk X.prog X.w X.K X.mg X.base CX0 2 f fd ["self", "other"] (spEqB X.K C)) (bd : Binds X.K fd ["self", "other"] []) (hm : Meth X.K C "__eq__" f) (hr : Room 2 X.A) : OpR X (compareOp .Eq) (rEq1 K C) := by
  subst eK
  intro pins s σ H x y v u Q I rx ry h
  obtain ⟨a, b, M, rfl, rfl, ha, hb, oM, q⟩ := h
  have G2 : FnOk X.prog X.w X.K X.mg X.base CX0 2 f fd ["self", "other"] (spEq fun a b H => ∃ M, BookAt X.K C H a M ∧ BookAt X.K C H b M ∧ KeyOk M) := G.imp fun vs H Q E h => by
    obtain ⟨a, b, rfl, ⟨M, ha, hb, oM⟩, q⟩ := h
    exact ⟨a, b, M, M, rfl, ha, hb, oM, oM, fun H' s' => by rw [key_eqv oM]; exact q H' s'⟩
  obtain ⟨dx, tn, on, wg, ws, wd, e, _⟩ := ha.ex
  obtain ⟨dx2, tn2, on2, wg2, ws2, wd2, e2, _⟩ := hb.ex
  exact op_eqG (rcG_ins (E := E0) G2 hm.at_ hm.fn bd pass0) hr pins s σ H _ _ v u Q I rx ry ⟨⟨a, b, dx, dx2, _, _, rfl, rfl, e, e2, M, ha, hb, oM⟩, fun H' s' => q H' s'⟩
def spSt (K : PySem.W.Frag) (C : Addr) : Sp := fun vs H Q E => spStP K C vs H Q E ∨ spStC K C vs H Q E
end Rc

namespace Rc
open PySem PySem.Spec PyProof.Rows L2 RZ
/-! ### steps that can be done -/
def clearAt (zs : List Str) (D : Md) (z : Str) : List (Str × Str × Int) := match ringM zs (nxD zs D) z with
  | some r => [("clear", z, leastI (r.map (amtAt zs (duesM (bkOf zs D)))))]
  | none => []
def payAt (zs : List Str) (D : Md) (z : Str) : List (Str × Str × Int) := if 0 < mostP (bkOf zs D) (zs.idxOf z) z then [("pay", z, mostP (bkOf zs D) (zs.idxOf z) z)] else []
def kindsD (zs : List Str) (D : Md) (l : List Str) : List (Str × Str × Int) := l.flatMap fun z => clearAt zs D z ++ payAt zs D z
theorem kindsD_snoc (zs : List Str) (D : Md) (l : List Str) (z : Str) : kindsD zs D (l ++ [z]) = kindsD zs D l ++ (clearAt zs D z ++ payAt zs D z) := by
  unfold kindsD
  rw [List.flatMap_append]
  simp
/-- a step that can be done, those of whom it falls, and what stands then -/
structure CanD (zs : List Str) (D : Md) (wd z : Str) (m : Int) (r : List Str) : Prop where
  hz : z ∈ zs
  m1 : 1 ≤ m
  m58 : m ≤ 10 ^ 58
  kd : (wd = "pay" ∧ r = [z]) ∨ (wd = "clear" ∧ ringM zs (nxD zs D) z = some r)
  nr : r.Nodup
  sub : ∀ y ∈ r, y ∈ zs
  g : Gs zs (fallAll zs D r m)
  gb : Gb (fallAll zs D r m)
  wv : Wv (bkOf zs D) [(wd, z, m)] (bkOf zs (fallAll zs D r m))
theorem mostP_most {zs : List Str} {D : Md} (g : Gs zs D) {z : Str} (hp : 0 < mostP (bkOf zs D) (zs.idxOf z) z) : ∃ n, (duesM (bkOf zs D)).getD (zs.idxOf z) none = some n ∧ mostP (bkOf zs D) (zs.idxOf z) z ≤ n.2 ∧ mostP (bkOf zs D) (zs.idxOf z) z ≤ cashM (bkOf zs D) (zs.idxOf z) z ∧ n.2 ≤ 10 ^ 58 := by
  cases h : (duesM (bkOf zs D)).getD (zs.idxOf z) none with
  | none =>
    rw [mostP_none h] at hp
    omega
  | some n =>
    have gn : 1 ≤ n.2 ∧ n.2 ≤ 10 ^ 58 := (g.due (getD_mem h)).2
    refine ⟨n, rfl, ?_, ?_, gn.2⟩ <;> (rw [mostP_some h]; split <;> omega)
theorem can_pay {zs : List Str} {D : Md} (g : Gs zs D) (gb : Gb D) {z : Str} (hz : z ∈ zs) {m : Int} (m1 : 1 ≤ m) (mm : m ≤ mostP (bkOf zs D) (zs.idxOf z) z) : CanD zs D "pay" z m [z] := by
  obtain ⟨n, hn, h1, h2, h3⟩ := mostP_most g (z := z) (by omega)
  have hj : zs.idxOf z < zs.length := List.idxOf_lt_length_of_mem hz
  have hl1 : zs.idxOf z < D.notes.length := by rw [g.ln]; exact hj
  have hl2 : zs.idxOf z < D.fallen.length := by rw [g.lf]; exact hj
  have el := List.getElem?_eq_getElem hl1
  have ef := List.getElem?_eq_getElem hl2
  have eo : (duesM (bkOf zs D)).getD (zs.idxOf z) none = (leftN D.notes[zs.idxOf z] D.fallen[zs.idxOf z]).head? := getD_of (dues_at (M := bkOf zs D) el ef)
  rw [hn] at eo
  cases hL : leftN D.notes[zs.idxOf z] D.fallen[zs.idxOf z] with
  | nil =>
    rw [hL] at eo
    cases eo
  | cons n' rest =>
    rw [hL] at eo
    have en : n = n' := Option.some.inj eo
    subst en
    have hn1 : ∀ x ∈ D.notes[zs.idxOf z], 1 ≤ x.2 := fun x hx => (g.nt _ (List.getElem_mem hl1) x hx).2.1
    have f0 := g.fl _ (List.getElem_mem hl2)
    obtain ⟨g2, fo⟩ := g.fall (idx_get hz) el ef hL (by omega) (show m ≤ n.2 by omega) (.inr (by omega))
    obtain ⟨w1, _⟩ := fall_one hn1 f0 (show 0 ≤ m by omega) (show m ≤ n.2 by omega) hL
    have e1 : fallAll zs D [z] m = fellD D (zs.idxOf z) (D.fallen[zs.idxOf z] + m) := by
      show fellD D (zs.idxOf z) (D.fallen.getD (zs.idxOf z) 0 + m) = _
      rw [getD_of ef]
    refine ⟨hz, m1, by omega, .inl ⟨rfl, rfl⟩, by simp, fun y hy => by rw [List.mem_singleton.mp hy]; exact hz, by rw [e1]; exact g2, by rw [e1]; exact gb.fell el w1, ?_⟩
    refine .pay g.ok (idx_get hz) m1 mm fo ?_
    rw [fell_eq g.nz.nd g.lf (idx_get hz) ef, e1]
    exact .nil _
theorem can_clear {zs : List Str} {D : Md} (g : Gs zs D) (gb : Gb D) {z : Str} (hz : z ∈ zs) {m : Int} {r : List Str} (m1 : 1 ≤ m) (hR : ringM zs (nxD zs D) z = some r) (mm : m ≤ leastI (r.map (amtAt zs (duesM (bkOf zs D))))) : CanD zs D "clear" z m r := by
  obtain ⟨g2, gb2, fo, nr, sub⟩ := clear_ok g gb hz m1 hR mm
  obtain ⟨_, c58, ec⟩ := ring_pos g hz hR
  refine ⟨hz, m1, by omega, .inr ⟨rfl, hR⟩, nr, sub, g2, gb2, ?_⟩
  refine .clear ⟨g.ok, g.closed, hz, m1, hR, mm, nr, fo⟩ ?_
  rw [fallAll_eq g.nz.nd g.lf nr sub]
  exact .nil _
theorem kind_can {zs : List Str} {D : Md} (g : Gs zs D) (gb : Gb D) {l : List Str} (hl : ∀ y ∈ l, y ∈ zs) {p : Str × Str × Int} (h : p ∈ kindsD zs D l) : 1 ≤ p.2.2 ∧ p.2.2 ≤ 10 ^ 58 ∧ p.2.1 ∈ zs ∧ (p.1 = "pay" ∨ p.1 = "clear") ∧ ∀ m, 1 ≤ m → m ≤ p.2.2 → ∃ r, CanD zs D p.1 p.2.1 m r := by
  unfold kindsD at h
  obtain ⟨z, hz', h⟩ := List.mem_flatMap.mp h
  have hz := hl z hz'
  rcases List.mem_append.mp h with h | h
  · unfold clearAt at h
    cases hR : ringM zs (nxD zs D) z with
    | none =>
      rw [hR] at h
      cases h
    | some r =>
      rw [hR] at h
      have e := List.mem_singleton.mp h
      subst e
      obtain ⟨c0, c58, ec⟩ := ring_pos g hz hR
      rw [ec] at c0 c58
      exact ⟨c0, c58, hz, .inr rfl, fun m m1 mm => ⟨r, can_clear g gb hz m1 hR mm⟩⟩
  · unfold payAt at h
    split at h
    · rename_i hp
      have e := List.mem_singleton.mp h
      subst e
      obtain ⟨n, _, h1, _, h3⟩ := mostP_most g hp
      exact ⟨hp, Int.le_trans h1 h3, hz, .inl rfl, fun m m1 mm => ⟨[z], can_pay g gb hz m1 mm⟩⟩
    · cases h
theorem kinds_none {zs : List Str} {D : Md} (g : Gs zs D) (h : kindsD zs D zs = []) : Settled zs D := by
  have hz : ∀ z ∈ zs, clearAt zs D z = [] ∧ payAt zs D z = [] := fun z hz => by
    unfold kindsD at h
    have := List.flatMap_eq_nil_iff.mp h z hz
    exact List.append_eq_nil_iff.mp this
  refine ⟨fun z hz' => ?_, fun z hz' => ?_⟩
  · have := (hz z hz').2
    unfold payAt at this
    split at this
    · cases this
    · rename_i hp
      have h0 : 0 ≤ mostP (bkOf zs D) (zs.idxOf z) z := by
        cases hd : (duesM (bkOf zs D)).getD (zs.idxOf z) none with
        | none => rw [mostP_none hd]; exact Int.le_refl _
        | some n =>
          have gn : 1 ≤ n.2 ∧ n.2 ≤ 10 ^ 58 := (g.due (getD_mem hd)).2
          have := g.cs _ _ (idx_get hz')
          rw [mostP_some hd]
          split <;> omega
      omega
  · have := (hz z hz').1
    unfold clearAt at this
    cases hR : ringM zs (nxD zs D) z with
    | none => rfl
    | some r =>
      rw [hR] at this
      cases this
def stepD3 (p : Str × Str × Int) : PyData := .tuple [.str p.1, .str p.2.1, .int p.2.2]
theorem StsAt.dp {K : PySem.W.Frag} {H : Hp} : ∀ {xs : List V} {W : List (Str × Str × Int)}, StsAt H xs W → DpAll K H xs (W.map stepD3)
  | [], [], _ => .nil
  | [], _ :: _, h => by cases h.1
  | _ :: _, [], h => by cases h.1
  | x :: xs, p :: W, h => by
    obtain ⟨a, rfl, ha⟩ := h.2 0 x p rfl rfl
    refine .cons (.tup (.inl (.inl ha)) (.cons (.str _) (.cons (.str _) (.cons (.int _) .nil)))) (StsAt.dp ⟨by simpa using h.1, fun i x' p' e1 e2 => h.2 (i + 1) x' p' (by simpa using e1) (by simpa using e2)⟩)
theorem name_pay : nameT "pay" = true := by decide +kernel
theorem name_clear : nameT "clear" = true := by decide +kernel
theorem nice_steps {zs : List Str} (hz : ∀ z ∈ zs, nameT z = true) : ∀ {W : List (Str × Str × Int)}, (∀ p ∈ W, 1 ≤ p.2.2 ∧ p.2.2 ≤ 10 ^ 58 ∧ p.2.1 ∈ zs ∧ (p.1 = "pay" ∨ p.1 = "clear")) → ∃ n, NiceA (W.map stepD3) n ∧ n ≤ 40 * W.length
  | [], _ => ⟨0, .nil, Nat.le_refl _⟩
  | p :: W, h => by
    obtain ⟨n, hn, ln⟩ := nice_steps hz (W := W) fun p' hp' => h p' (List.mem_cons_of_mem _ hp')
    obtain ⟨h1, h2, h3, h4⟩ := h p List.mem_cons_self
    have n1 : nameT p.1 = true := by
      rcases h4 with h4 | h4 <;> rw [h4]
      · exact name_pay
      · exact name_clear
    have a3 : NiceA [PyData.int p.2.2] (0 + 1 + 0) := NiceA.cons (nice_int (amt_big ⟨h1, h2⟩)) (Nat.zero_le _) .nil
    have a2 := NiceA.cons (nice_name (hz _ h3)) (Nat.zero_le _) a3
    have a1 := NiceA.cons (nice_name n1) (Nat.zero_le _) a2
    have t1 : NiceD (stepD3 p) _ := a1.tuple
    have d4 : (stepD3 p).depth ≤ 4 := by
      unfold stepD3
      simp [PyData.depth, PyData.depthAll]
    exact ⟨_, NiceA.cons t1 d4 hn, by rw [List.length_cons]; omega⟩
section
variable {P : Program} {w : World} {K : PySem.W.Frag} {mg : Str → Option Value} {base : Heap}
/-! ### _law_fall -/
abbrev sLFl : Stmt := topS 66
theorem scLFl : FnScope ["_law_model_here", "_law_who", "_law_amount_here"] ["_law_model_here", "_law_who", "_law_amount_here"] (defScope sLFl) := ⟨rfl, rfl, rfl, by decide +kernel, rfl, by decide +kernel, by decide +kernel⟩
def spLFl (K : PySem.W.Frag) : Sp := fun vs H Q _ => ∃ (a : MdA) (D : Md) (zs : List Str) (z : Str) (m : Int), vs = [.ref a.m, .str z, .int m] ∧ ModelAt K H zs a D ∧ NamesOk zs ∧ z ∈ zs ∧ ∀ H', But a.df H H' → ModelAt K H' zs a (fellD D (zs.idxOf z) (D.fallen.getD (zs.idxOf z) 0 + m)) → Q .non H'
theorem ok_lfl {f : Addr} {fd : FuncData} (F : Fun K "_law_fall" "_law_fall" sLFl f fd) : FnOk P w K mg base CX0 1 f fd ["_law_model_here", "_law_who", "_law_amount_here"] (spLFl K) := by
  refine F.ok scLFl (fun vs H Q E h => ?_) (fun cdv Ar outer s H vs Q E hr h => ?_)
  · obtain ⟨_, _, _, _, _, rfl, _⟩ := h
    rfl
  · obtain ⟨a, D, zs, z, m, rfl, hM, nz, hz, q⟩ := h
    have hu := hu_of hr
    refine ⟨_, pss_one (ps_dput hu (pe_dget hu (pv 0) pe_str (fun _ _ => rfl)) (pv 1) (pe_op op_add (pe_dget hu (pe_dget hu (pv 0) pe_str (fun _ _ => rfl)) (pv 1) (fun _ _ => rfl)) (pv 2)) rfl), ?_⟩
    have lz := nz.n1
    have ej := idx_get hz
    obtain ⟨gv, f', l', rw0, xs, eg, ef, el, er, hr0, hd0⟩ := hM.at_ ej
    rw [getD_of ef] at q
    refine ⟨.ref a.m, rfl, a.m, .ref a.df, rfl, hM.g2, .str z, rfl, a.df, .int f', rfl, hM.gf ej ef, .int m, rfl, f', m, rfl, rfl, .ref a.m, rfl, a.m, .ref a.df, rfl, hM.g2, .str z, rfl, ?_⟩
    have hjf : zs.idxOf z < D.fallen.length := (List.getElem?_eq_some_iff.mp ef).1
    refine ⟨a.df, _, rfl, DPut.k (k := Sum.inr z) hM.hf (by rw [dct_len (by rw [List.length_map, hM.lf])]; exact small1000 (by omega)), ?_⟩
    rw [dct_put hM.zn ej (by rw [List.length_map]; exact hjf), map_set V.int]
    exact q _ But.at (hM.setF nz.n0 (f' + m))
/-! ### _law_most -/
abbrev sLMo : Stmt := topS 67
abbrev nLMo : List Str := ["_law_model_here", "_law_who", "_law_left_here"]
theorem scLMo : FnScope nLMo ["_law_model_here", "_law_who"] (defScope sLMo) := ⟨rfl, rfl, rfl, by decide +kernel, rfl, by decide +kernel, by decide +kernel⟩
def spLMo (K : PySem.W.Frag) : Sp := fun vs H Q _ => ∃ (a : MdA) (D : Md) (zs : List Str) (z : Str), vs = [.ref a.m, .str z] ∧ ModelAt K H zs a D ∧ Gs zs D ∧ z ∈ zs ∧ ∀ H', Same H H' → Q (.int (mostP (bkOf zs D) (zs.idxOf z) z)) H'
theorem ok_lmo {f f1 f2 : Addr} {fd fd1 fd2 : FuncData} (F : Fun K "_law_most" "_law_most" sLMo f fd) (B2 : Blt2 mg) (LL : Has P w K mg base 2 "_law_left" ["_law_model_here", "_law_who"] (spLLf K) f1 fd1) (LC : Has P w K mg base 2 "_law_cash" ["_law_model_here", "_law_who"] (spLCs K) f2 fd2) :
    FnOk P w K mg base CX0 3 f fd ["_law_model_here", "_law_who"] (spLMo K) := by
  refine F.ok scLMo (fun vs H Q E h => ?_) (fun cdv Ar outer s H vs Q E hr h => ?_)
  · obtain ⟨_, _, _, _, rfl, _⟩ := h
    rfl
  · obtain ⟨a, D, zs, z, rfl, hM, g, hz, q⟩ := h
    refine ⟨_, pss_cons (ps_set (i := 2) scLMo.nd rfl (.inl rfl) (pe_call LL.ok hr (by rfl) LL.g LL.kp LL.b .nil pass0 (pa_cons (pv 0) (pa_cons (pv 1) pa_nil))))
      (pss_one (ps_ret (pe_ifExp (pt_cmpR (op_neD hr.units) (pv 2) (pe_lst pa_nil) (nomark _))
          (pe_callB (call_min2 rfl) (by rfl) B2.min (by decide +kernel) (pa_cons (pe_ix ix_tup (pe_ix ix_list (pv 2) pe_int (fun _ _ => rfl)) pe_int (fun _ _ => rfl)) (pa_cons (pe_call LC.ok hr (by rfl) LC.g LC.kp LC.b .nil pass0 (pa_cons (pv 0) (pa_cons (pv 1) pa_nil))) pa_nil))) pe_int))), ?_⟩
    have ej := idx_get hz
    obtain ⟨gv, f', l', r, xs, eg, ef, el, er, hr0, hd0⟩ := hM.at_ ej
    have ll := g.rows l' (List.mem_of_getElem? el)
    have gl := g.left el ef
    have eo : (duesM (bkOf zs D)).getD (zs.idxOf z) none = (leftN l' f').head? := getD_of (dues_at (M := bkOf zs D) el ef)
    refine ⟨.ref a.m, rfl, .str z, rfl, a, D, zs, z, _, l', f', rfl, hM, ej, el, ef, by omega, fun m mx H1 s1 nm hm dm => ?_⟩
    generalize leftN l' f' = L at dm gl eo
    refine ⟨.ref m, rfl, Nat.zero_le _, fun e ne => ?_⟩
    have s2 := same_upd (o := .lst []) ne
    have he : upd H1 e (.lst []) e = some (.lst []) := upd_same
    generalize upd H1 e (.lst []) = H2 at s2 he
    have hm2 := s2 _ _ hm
    have dm2 := DtAll.same s2 _ dm
    refine ⟨.list (notesD L), .list [], notes_dp hm2 dm2, .lst (.inl (.inl he)) .nil, nice_shaped (nice_notes g.nz.nm gl).list, shaped_nil, _, rfl, ?_⟩
    cases L with
    | nil =>
      rw [mostP_none eo] at q
      exact iteF (q H2 (s1.trans s2))
    | cons n t =>
      rw [mostP_some (n := n) eo] at q
      cases dm2 with
      | cons d1 d2 =>
        rename_i x xr
        obtain ⟨ta, rfl, qt⟩ := note_inv d1
        refine iteT ⟨.ref m, rfl, m, _, 0, .ref ta, rfl, rfl, .inl (.inl hm2), atI_nat (j := 0) rfl, ta, _, 1, .int n.2, rfl, rfl, qt, rfl, .ref a.m, rfl, .str z, rfl, a, D, zs, z, _, rfl, model_same hM (s1.trans s2), ej, g.rows, fun H3 s3 => ⟨_, _, rfl, ?_⟩⟩
        rw [← cash_eq zs]
        exact q H3 ((s1.trans s2).trans s3)
/-! ### _law_least -/
abbrev sLLs : Stmt := topS 68
abbrev nLLs : List Str := ["_law_model_here", "_law_ring_here", "_law_one"]
theorem scLLs : FnScope nLLs ["_law_model_here", "_law_ring_here"] (defScope sLLs) := ⟨rfl, rfl, rfl, by decide +kernel, rfl, by decide +kernel, by decide +kernel⟩
def spLLs (K : PySem.W.Frag) : Sp := fun vs H Q _ => ∃ (a : MdA) (D : Md) (zs : List Str) (av : Addr) (rr : List Str), vs = [.ref a.m, .ref av] ∧ ModelAt K H zs a D ∧ Gs zs D ∧ H av = some (.lst (rr.map V.str)) ∧ rr ≠ [] ∧ rr.length ≤ 12 ∧ (∀ y ∈ rr, y ∈ zs ∧ ∃ x, nxD zs D y = some x) ∧
  ∀ H', Same H H' → Q (.int (leastI (rr.map (amtAt zs (duesM (bkOf zs D)))))) H'
theorem ok_lls {f f1 : Addr} {fd fd1 : FuncData} (F : Fun K "_law_least" "_law_least" sLLs f fd) (B2 : Blt2 mg) (LL : Has P w K mg base 2 "_law_left" ["_law_model_here", "_law_who"] (spLLf K) f1 fd1) : FnOk P w K mg base CX0 3 f fd ["_law_model_here", "_law_ring_here"] (spLLs K) := by
  refine F.ok scLLs (fun vs H Q E h => ?_) (fun cdv Ar outer s H vs Q E hr h => ?_)
  · obtain ⟨_, _, _, _, _, rfl, _⟩ := h
    rfl
  · obtain ⟨a, D, zs, av, rr, rfl, hM, g, hav, hne, l12, rd, q⟩ := h
    refine ⟨_, pss_one (ps_ret (pe_callB (cr_min rfl) (by rfl) B2.min (by decide +kernel) (pa_cons
        (pe_lc (own := [("_law_one", 2)]) (g := gName 2) (tt := tYes) rfl scLLs.nd (pi_list (pv 1)) (blkOk_by (N := nLLs) (sc := defScope sLLs) (own := [("_law_one", 2)]) (by decide +kernel))
          (fun _ _ _ _ _ => pg_name (i := 2) scLLs.nd rfl (.inl rfl) (hf := .inr rfl)) (fun _ _ _ _ _ => pts_nil)
          (fun _ _ _ _ _ => pe_ix (ix_tupS (K := K) rfl) (pe_ix (ix_listS (K := K) rfl) (pe_call LL.ok hr (by rfl) LL.g LL.kp LL.b .nil pass0 (pa_cons (pv 0) (pa_cons (pv 2) pa_nil))) pe_int (fun _ _ => rfl)) pe_int (fun _ _ => rfl))) pa_nil))), ?_⟩
    refine ⟨.ref av, rfl, av, rfl, ⟨_, .inl (.inl hav)⟩, fun D0 nD0 => ?_⟩
    refine lc_it (walk_list (K := K) (a := av) (xs := rr.map V.str)) (fun i H' => Same H H' ∧ H' D0 = some (.lst (((rr.take i).map (amtAt zs (duesM (bkOf zs D)))).map V.int))) ⟨same_upd nD0, upd_same⟩ (fun i H' _ hP => .inl (.inl (hP.1 _ _ hav)))
      (fun i x H3' H3 hi hP hY => ?_) (fun H3 hP => ?_)
    · obtain ⟨rfl, hx⟩ := hY
      rw [List.length_map] at hi
      have exx : x = .str rr[i] := by
        rw [List.getElem?_map, List.getElem?_eq_getElem hi] at hx
        exact (Option.some.inj hx).symm
      subst exx
      obtain ⟨hy, x2, hx2⟩ := rd _ (List.getElem_mem hi)
      have ejy := idx_get hy
      obtain ⟨gv2, f2', l2', r2, xs2, eg2, ef2, el2, er2, hr02, hd02⟩ := hM.at_ ejy
      have ll2 := g.rows l2' (List.mem_of_getElem? el2)
      have eo2 : (duesM (bkOf zs D)).getD (zs.idxOf rr[i]) none = (leftN l2' f2').head? := getD_of (dues_at (M := bkOf zs D) el2 ef2)
      refine ⟨rfl, .ref a.m, rfl, .str rr[i], rfl, a, D, zs, _, _, l2', f2', rfl, model_same hM hP.1, ejy, el2, ef2, by omega, fun m2 mx2 H4 s4 nm2 hm2 dm2 => ?_⟩
      rw [nxD_at hM.zn ejy el2 ef2] at hx2
      cases hL : leftN l2' f2' with
      | nil =>
        rw [hL] at hx2
        cases hx2
      | cons n t =>
        rw [hL] at dm2 eo2
        have ea : amtAt zs (duesM (bkOf zs D)) rr[i] = n.2 := by
          unfold amtAt
          rw [eo2]
          rfl
        cases dm2 with
        | cons d1 d2 =>
          rename_i x xr
          obtain ⟨ta, rfl, qt⟩ := note_inv d1
          refine ⟨m2, _, 0, .ref ta, rfl, rfl, .inl (.inl hm2), atI_nat (j := 0) rfl, ta, _, 1, .int n.2, rfl, rfl, qt, rfl, _, s4 _ _ hP.2, ?_, fun c o ec => ?_, ?_⟩
          · rw [List.length_map, List.length_map, List.length_take]
            exact small1000 (by omega)
          · rw [upd_ne (ne_of_none ec nD0)]
            exact s4 _ _ (hP.1 c o ec)
          · rw [upd_same, take_succ hi, List.map_append, List.map_append, ← ea]
            rfl
    · obtain ⟨s3, hD0⟩ := hP
      rw [List.length_map, List.take_length] at hD0
      refine ⟨D0, _, rfl, .inl (.inl hD0), by rw [List.length_map]; exact List.length_pos_iff.mpr hne, fun mn h1 h2 => ?_⟩
      rw [least_uniq h1 h2]
      exact q H3 s3
/-! ### _law_went -/
abbrev sLWn : Stmt := topS 74
abbrev nLWn : List Str := ["_law_model_here", "_law_step_here", "_law_word", "_law_who", "_law_amount_here", "_law_some", "_law_one"]
theorem scLWn : FnScope nLWn ["_law_model_here", "_law_step_here"] (defScope sLWn) := ⟨rfl, rfl, rfl, by decide +kernel, rfl, by decide +kernel, by decide +kernel⟩
def spLWn (K : PySem.W.Frag) : Sp := fun vs H Q _ => ∃ (a : MdA) (D : Md) (zs : List Str) (t : Addr) (wd z : Str) (m : Int) (r : List Str), vs = [.ref a.m, .ref t] ∧ ModelAt K H zs a D ∧ Gs zs D ∧ SqT K H t [.str wd, .str z, .int m] ∧ CanD zs D wd z m r ∧ ∀ H', But a.df H H' → ModelAt K H' zs a (fallAll zs D r m) → Q .non H'
theorem ok_lwn {f f1 f3 : Addr} {fd fd1 fd3 : FuncData} (F : Fun K "_law_went" "_law_went" sLWn f fd) (LR : Has P w K mg base 5 "_law_ring" ["_law_model_here", "_law_who"] (spLRg K) f3 fd3) (FL : Has P w K mg base 1 "_law_fall" ["_law_model_here", "_law_who", "_law_amount_here"] (spLFl K) f1 fd1) :
    FnOk P w K mg base CX0 6 f fd ["_law_model_here", "_law_step_here"] (spLWn K) := by
  refine F.ok scLWn (fun vs H Q E h => ?_) (fun cdv Ar outer s H vs Q E hr h => ?_)
  · obtain ⟨_, _, _, _, _, _, _, _, rfl, _⟩ := h
    rfl
  · obtain ⟨a, D, zs, t, wd, z, m, r, rfl, hM, g, ht, cd, q⟩ := h
    have hr1 := hr.mono (show 1 ≤ 5 by decide)
    refine ⟨_, pss_cons (ps_asg (pv 1) (pg_tup rfl (pgs_cons (pg_name (i := 2) scLWn.nd rfl (.inl rfl)) (pgs_cons (pg_name (i := 3) scLWn.nd rfl (.inl rfl)) (pgs_cons (pg_name (i := 4) scLWn.nd rfl (.inl rfl)) pgs_nil)))))
      (C8.pss_cut (ps_set (i := 5) scLWn.nd rfl (.inl rfl) (pe_ifExp (pt_cmpR op_eq (pv 2) pe_str (nomark _)) (pe_lst (pa_cons (pv 3) pa_nil)) (pe_call LR.ok hr (by rfl) LR.g LR.kp LR.b .nil pass0 (pa_cons (pv 0) (pa_cons (pv 3) pa_nil)))))
      (pss_one (ps_for PassesOwn.never rfl (pi_list (pv 5)) (pg_name (i := 6) scLWn.nd rfl (.inl rfl))
        (pss_one (ps_expr (pe_call FL.ok hr1 (by rfl) FL.g FL.kp FL.b .nil pass0 (pa_cons (pv 0) (pa_cons (pv 6) (pa_cons (pv 4) pa_nil))))))))), ?_⟩
    refine ⟨.ref t, rfl, t, _, rfl, ht, rfl, _, _, rfl, _, _, rfl, _, _, rfl, rfl, ?_⟩
    refine ⟨fun σ' H1 => ∃ L, σ' = [some (V.ref a.m), some (V.ref t), some (V.str wd), some (V.str z), some (V.int m), some (V.ref L), none] ∧ Same H H1 ∧ H1 L = some (.lst (r.map V.str)), ?_, ?_⟩
    · refine ⟨.str wd, rfl, rfl, _, rfl, ?_⟩
      rcases cd.kd with ⟨rfl, rfl⟩ | ⟨rfl, hR⟩
      · rw [decide_eq_true rfl]
        exact iteT ⟨.str z, rfl, by show 1 ≤ sizeLine; decide, fun L nL => ⟨L, rfl, same_upd nL, upd_same⟩⟩
      · rw [decide_eq_false pay_ne_clear]
        refine iteF ⟨.ref a.m, rfl, .str z, rfl, a, D, zs, z, rfl, hM, g, cd.hz, fun v H1 s1 rv => ?_⟩
        rw [hR] at rv
        obtain ⟨av, rfl, nav, hav⟩ := rv
        exact ⟨av, rfl, s1, hav⟩
    · rintro σ' H1 ⟨L, rfl, s1, hL⟩
      have nL : L ≠ a.df := fun c => by
        have := s1 _ _ hM.hf
        rw [← c, hL] at this
        cases this
      refine ⟨.ref L, rfl, L, rfl, ⟨_, .inl (.inl hL)⟩, ?_⟩
      refine for_it (walk_list (K := K) (a := L) (xs := r.map V.str)) (fun i σ H' => ∃ y6, σ = [some (.ref a.m), some (.ref t), some (.str wd), some (.str z), some (.int m), some (.ref L), y6] ∧ But a.df H1 H' ∧ ModelAt K H' zs a (fallAll zs D (r.take i) m)) ⟨_, rfl, But.refl _ _, model_same hM s1⟩ (fun i σ H' _ hP => ?_) (fun i x σ H2' H2 hi hP hY => ?_) (fun σ H2 hP => ?_)
      · obtain ⟨_, _, b2, _⟩ := hP
        exact .inl (.inl (b2 _ _ nL hL))
      · obtain ⟨rfl, hx⟩ := hY
        obtain ⟨y6, rfl, b2, hM2⟩ := hP
        rw [List.length_map] at hi
        have exx : x = .str r[i] := by
          rw [List.getElem?_map, List.getElem?_eq_getElem hi] at hx
          exact (Option.some.inj hx).symm
        subst exx
        have hy := cd.sub _ (List.getElem_mem hi)
        have ef0 := take_succ hi
        have eD : fallAll zs D (r.take (i + 1)) m = fellD (fallAll zs D (r.take i) m) (zs.idxOf r[i]) ((fallAll zs D (r.take i) m).fallen.getD (zs.idxOf r[i]) 0 + m) := by
          unfold fallAll
          rw [ef0, List.foldl_append]
          rfl
        rw [eD]
        refine ⟨.ref a.m, rfl, .str r[i], rfl, .int m, rfl, a, _, zs, r[i], m, rfl, hM2, g.nz, hy, fun H3 b3 hM3 => ?_⟩
        exact ⟨_, rfl, b2.trans b3, hM3⟩
      · obtain ⟨y6, rfl, b2, hM2⟩ := hP
        rw [List.length_map, List.take_length] at hM2
        exact q H2 ((same_but s1).trans b2) hM2
end
end Rc

namespace Rc
open PySem PySem.Spec PyProof.Rows L2 RZ
theorem sts_more {H H3 : Hp} {r t : Addr} {xs : List V} {W : List (Str × Str × Int)} {p : Str × Str × Int} (nr : H r = none) (s : Same H H3) (hr : H3 r = some (.lst xs)) (st : StsAt H3 xs W) (nt : H3 t = none) :
    Same H (upd (upd H3 t (.tup [.str p.1, .str p.2.1, .int p.2.2])) r (.lst (xs ++ [.ref t]))) ∧ StsAt (upd (upd H3 t (.tup [.str p.1, .str p.2.1, .int p.2.2])) r (.lst (xs ++ [.ref t]))) (xs ++ [.ref t]) (W ++ [p]) := by
  have s5 := same_upd (o := .tup [.str p.1, .str p.2.1, .int p.2.2]) nt
  have ht : upd H3 t (.tup [.str p.1, .str p.2.1, .int p.2.2]) t = some (.tup [.str p.1, .str p.2.1, .int p.2.2]) := upd_same
  generalize upd H3 t (.tup [.str p.1, .str p.2.1, .int p.2.2]) = H5 at s5 ht
  have kt : KT H5 (upd H5 r (.lst (xs ++ [.ref t]))) := kt_upd (s5 _ _ hr) fun z => z
  refine ⟨fun c o ec => ?_, ((st.kt (kt_same s5)).app (StsAt.one ht)).kt kt⟩
  rw [upd_ne (ne_of_none ec nr)]
  exact s5 _ _ (s c o ec)
section
variable {P : Program} {w : World} {K : PySem.W.Frag} {mg : Str → Option Value} {base : Heap}
/-! ### _law_step -/
abbrev sLSp : Stmt := topS 73
abbrev nLSp : List Str := ["_law_pot_here", "_law_model_here", "_law_kinds", "_law_who", "_law_ring_here", "_law_word", "_law_most_here", "_law_amount_here"]
theorem scLSp : FnScope nLSp ["_law_pot_here", "_law_model_here"] (defScope sLSp) := ⟨rfl, rfl, rfl, by decide +kernel, rfl, by decide +kernel, by decide +kernel⟩
def spLSp (K : PySem.W.Frag) : Sp := fun vs H Q _ => ∃ (p : Addr) (a : MdA) (D : Md) (zs : List Str), vs = [.ref p, .ref a.m] ∧ Pot H p ∧ ModelAt K H zs a D ∧ Gs zs D ∧ Gb D ∧ (Settled zs D → ∀ H', Same H H' → Q .non H') ∧
  ∀ (t : Addr) (wd z : Str) (m : Int) (r : List Str) H', H t = none → But p H H' → Pot H' p → H' t = some (.tup [.str wd, .str z, .int m]) → CanD zs D wd z m r → Q (.ref t) H'
theorem ok_lsp {f fT fA f1 f2 f3 : Addr} {fd fdT fdA fd1 fd2 fd3 : FuncData} (F : Fun K "_law_step" "_law_step" sLSp f fd) (B2 : Blt2 mg) (TK : HasTake P w K mg base fT fdT) (AM : HasAmong P w K mg base fA fdA) (LR : Has P w K mg base 5 "_law_ring" ["_law_model_here", "_law_who"] (spLRg K) f1 fd1)
    (LS : Has P w K mg base 3 "_law_least" ["_law_model_here", "_law_ring_here"] (spLLs K) f2 fd2) (MO : Has P w K mg base 3 "_law_most" ["_law_model_here", "_law_who"] (spLMo K) f3 fd3) : FnOk P w K mg base CX0 6 f fd ["_law_pot_here", "_law_model_here"] (spLSp K) := by
  refine F.ok scLSp (fun vs H Q E h => ?_) (fun cdv Ar outer s H vs Q E hr h => ?_)
  · obtain ⟨_, _, _, _, rfl, _⟩ := h
    rfl
  · obtain ⟨p, a, D, zs, rfl, hp, hM, g, gb, q0, q⟩ := h
    have hu := hu_of hr
    have hr1 := hr.mono (show 1 ≤ 5 by decide)
    have hr2 := hr.mono (show 2 ≤ 5 by decide)
    have hr3 := hr.mono (show 3 ≤ 5 by decide)
    refine ⟨_, pss_cons (ps_set (i := 2) scLSp.nd rfl (.inl rfl) (pe_lst pa_nil))
      (pss_cons (ps_for PassesOwn.never rfl (pi_list (pe_dget hu (pv 1) pe_str (fun _ _ => rfl))) (pg_name (i := 3) scLSp.nd rfl (.inl rfl))
        (pss_cons (ps_set (i := 4) scLSp.nd rfl (.inl rfl) (pe_call LR.ok hr (by rfl) LR.g LR.kp LR.b .nil pass0 (pa_cons (pv 1) (pa_cons (pv 3) pa_nil))))
        (C8.pss_cut (ps_if (pt_cmpR op_notN (pv 4) pe_non (nomark _)) (pss_one (ps_expr (pe_bm PySem.F.plainAttrs_list PySem.F.slot_list_append PySem.F.type_list_append mt_append (pv 2) (pa_cons (pe_tup (pa_cons pe_str (pa_cons (pv 3) (pa_cons (pe_call LS.ok hr3 (by rfl) LS.g LS.kp LS.b .nil pass0 (pa_cons (pv 1) (pa_cons (pv 4) pa_nil))) pa_nil)))) pa_nil)))) pss_nil)
        (pss_one (ps_if (pt_cmpR op_gt (pe_call MO.ok hr3 (by rfl) MO.g MO.kp MO.b .nil pass0 (pa_cons (pv 1) (pa_cons (pv 3) pa_nil))) pe_int (nomark _)) (pss_one (ps_expr (pe_bm PySem.F.plainAttrs_list PySem.F.slot_list_append PySem.F.type_list_append mt_append (pv 2) (pa_cons (pe_tup (pa_cons pe_str (pa_cons (pv 3) (pa_cons (pe_call MO.ok hr3 (by rfl) MO.g MO.kp MO.b .nil pass0 (pa_cons (pv 1) (pa_cons (pv 3) pa_nil))) pa_nil)))) pa_nil)))) pss_nil)))))
      (pss_cons (ps_if (pt_cmpR (op_eqD hr.units) (pv 2) (pe_lst pa_nil) (nomark _)) (pss_one (ps_ret pe_non)) pss_nil)
      (pss_cons (ps_asg (pe_call AM.ok hr2 (by rfl) AM.g AM.kp AM.b .nil pass0 (pa_cons (pv 0) (pa_cons (pv 2) pa_nil))) (pg_tup rfl (pgs_cons (pg_name (i := 5) scLSp.nd rfl (.inl rfl)) (pgs_cons (pg_name (i := 3) scLSp.nd rfl (.inl rfl)) (pgs_cons (pg_name (i := 6) scLSp.nd rfl (.inl rfl)) pgs_nil)))))
      (pss_cons (ps_set (i := 7) scLSp.nd rfl (.inl rfl) (pe_ix ix_list (pe_lst (pa_cons (pv 6) (pa_cons pe_int (pa_cons (pe_op op_add pe_int (pe_call TK.ok hr1 (by rfl) TK.g TK.kp TK.b .nil pass0 (pa_cons (pv 0) (pa_cons (pv 6) pa_nil))))
        (pa_cons (pe_callB (call_min2 rfl) (by rfl) B2.min (by decide +kernel) (pa_cons (pv 6) (pa_cons (pe_op op_add pe_int (pe_call TK.ok hr1 (by rfl) TK.g TK.kp TK.b .nil pass0 (pa_cons (pv 0) (pa_cons pe_int pa_nil)))) pa_nil))) pa_nil)))))
        (pe_call TK.ok hr1 (by rfl) TK.g TK.kp TK.b .nil pass0 (pa_cons (pv 0) (pa_cons pe_int pa_nil))) (fun _ _ => rfl)))
      (pss_one (ps_ret (pe_tup (pa_cons (pv 5) (pa_cons (pv 3) (pa_cons (pv 7) pa_nil)))))))))), ?_⟩
    have lz := g.nz.n1
    have wk := g.walks
    refine ⟨Nat.zero_le _, fun r nr => ?_⟩
    have s0 := same_upd (o := .lst []) nr
    have hr0 : upd H r (.lst []) r = some (.lst []) := upd_same
    generalize upd H r (.lst []) = H0 at s0 hr0
    have hM0 := model_same hM s0
    refine ⟨.ref a.m, rfl, a.m, .ref a.lo, rfl, hM0.g0, a.lo, rfl, ⟨_, .inl (.inl hM0.ho)⟩, ?_⟩
    refine for_it (walk_list (K := K) (a := a.lo) (xs := zs.map V.str)) (fun i σ H' => ∃ xs y3 y4 y5 y6 y7, σ = [some (.ref p), some (.ref a.m), some (.ref r), y3, y4, y5, y6, y7] ∧ Same H H' ∧ H' r = some (.lst xs) ∧ StsAt H' xs (kindsD zs D (zs.take i)) ∧ xs.length ≤ 2 * i)
      ⟨[], _, _, _, _, _, rfl, s0, hr0, ⟨rfl, fun i x p e _ => by cases e⟩, Nat.zero_le _⟩ (fun i σ H' _ hP => ?_) (fun i x σ H1' H1 hi hP hY => ?_) (fun σ H1 hP => ?_)
    · obtain ⟨_, _, _, _, _, _, _, s1, _⟩ := hP
      exact .inl (.inl (s1 _ _ hM.ho))
    · obtain ⟨rfl, hx⟩ := hY
      obtain ⟨xs, y3, y4, y5, y6, y7, rfl, s1, hr1', st1, lx⟩ := hP
      rw [List.length_map] at hi
      have exx : x = .str zs[i] := by
        rw [List.getElem?_map, List.getElem?_eq_getElem hi] at hx
        exact (Option.some.inj hx).symm
      subst exx
      have hz : zs[i] ∈ zs := List.getElem_mem hi
      have tk := take_succ hi
      generalize zs[i] = z at hz tk
      refine ⟨.ref a.m, rfl, .str z, rfl, a, D, zs, z, rfl, model_same hM s1, g, hz, fun v H2 s2 rv => ?_⟩
      have s12 := s1.trans s2
      refine ⟨fun σ' H' => ∃ xs', σ' = [some (V.ref p), some (V.ref a.m), some (V.ref r), some (V.str z), some v, y5, y6, y7] ∧ Same H H' ∧ H' r = some (.lst xs') ∧ StsAt H' xs' (kindsD zs D (zs.take i) ++ clearAt zs D z) ∧ xs'.length ≤ 2 * i + 1, ?_, ?_⟩
      · cases hR : ringM zs (nxD zs D) z with
        | none =>
          rw [hR] at rv
          have ev : v = .non := rv
          subst ev
          refine ⟨.non, rfl, rfl, _, rfl, ?_⟩
          rw [decide_eq_true rfl]
          refine iteF ⟨xs, rfl, s12, s2 _ _ hr1', ?_, by omega⟩
          have e0 : clearAt zs D z = [] := by
            unfold clearAt
            rw [hR]
          rw [e0, List.append_nil]
          exact st1.kt (kt_same s2)
        | some rr =>
          have rd := ring_due wk.ld hz hR
          have rn := ring_names g.nz.nm wk.lz wk.ld hz rr hR
          have ne := ring_perm wk.ld hz hR
          rw [hR] at rv
          obtain ⟨av, rfl, nav, hav⟩ := rv
          refine ⟨.ref av, rfl, rfl, _, rfl, ?_⟩
          rw [decide_eq_false (fun c => by cases c)]
          refine iteT ⟨.ref r, rfl, .inl ⟨rfl, _, .inl (.inl (s2 _ _ hr1'))⟩, .str z, rfl, .ref a.m, rfl, .ref av, rfl, a, D, zs, av, rr, rfl, model_same hM s12, g, hav, ne.2.2.2, Nat.le_trans (nodup_le _ _ ne.2.1 ne.2.2.1) lz, rd, fun H3 s3 => ⟨by show 3 ≤ sizeLine; decide, fun t nt => ⟨r, xs, _, rfl, rfl, by rw [upd_ne (ne_of_none (s3 _ _ (s2 _ _ hr1')) nt)]; exact s3 _ _ (s2 _ _ hr1'), small1000 (by omega), ?_⟩⟩⟩
          obtain ⟨k1, k2⟩ := sts_more (p := ("clear", z, leastI (rr.map (amtAt zs (duesM (bkOf zs D)))))) nr (s12.trans s3) (s3 _ _ (s2 _ _ hr1')) (st1.kt (kt_same (s2.trans s3))) nt
          refine ⟨xs ++ [.ref t], rfl, k1, upd_same, ?_, by rw [List.length_append]; exact Nat.add_le_add_right lx 1⟩
          have e0 : clearAt zs D z = [(("clear" : Str), z, leastI (rr.map (amtAt zs (duesM (bkOf zs D)))))] := by
            unfold clearAt
            rw [hR]
          rw [e0]
          exact k2
      · rintro σ' H3 ⟨xs', rfl, s3, hr3', st3, lx3⟩
        have em : payAt zs D z = if 0 < mostP (bkOf zs D) (zs.idxOf z) z then [(("pay" : Str), z, mostP (bkOf zs D) (zs.idxOf z) z)] else [] := rfl
        refine ⟨.ref a.m, rfl, .str z, rfl, a, D, zs, z, rfl, model_same hM s3, g, hz, fun H4 s4 => ⟨_, _, rfl, rfl, _, rfl, ?_⟩⟩
        have s04 := s3.trans s4
        by_cases hp0 : 0 < mostP (bkOf zs D) (zs.idxOf z) z
        · rw [decide_eq_true hp0]
          rw [if_pos hp0] at em
          refine iteT ⟨.ref r, rfl, .inl ⟨rfl, _, .inl (.inl (s4 _ _ hr3'))⟩, .str z, rfl, .ref a.m, rfl, .str z, rfl, a, D, zs, z, rfl, model_same hM s04, g, hz, fun H5 s5 => ⟨by show 3 ≤ sizeLine; decide, fun t nt => ⟨r, xs', _, rfl, rfl, by rw [upd_ne (ne_of_none (s5 _ _ (s4 _ _ hr3')) nt)]; exact s5 _ _ (s4 _ _ hr3'), small1000 (by omega), ?_⟩⟩⟩
          obtain ⟨k1, k2⟩ := sts_more (p := ("pay", z, mostP (bkOf zs D) (zs.idxOf z) z)) nr (s04.trans s5) (s5 _ _ (s4 _ _ hr3')) (st3.kt (kt_same (s4.trans s5))) nt
          refine ⟨xs' ++ [.ref t], _, _, _, _, _, rfl, k1, upd_same, ?_, by rw [List.length_append]; show xs'.length + 1 ≤ _; omega⟩
          rw [tk, kindsD_snoc, em, ← List.append_assoc]
          exact k2
        · rw [decide_eq_false hp0]
          rw [if_neg hp0] at em
          refine iteF ⟨xs', _, _, _, _, _, rfl, s04, s4 _ _ hr3', ?_, by omega⟩
          rw [tk, kindsD_snoc, em, List.append_nil]
          exact st3.kt (kt_same s4)
    · obtain ⟨xs, y3, y4, y5, y6, y7, rfl, s1, hr1', st1, lx⟩ := hP
      rw [List.length_map] at lx
      rw [List.length_map, List.take_length] at st1
      -- none
      refine ⟨.ref r, rfl, Nat.zero_le _, fun e ne => ?_⟩
      have s2 := same_upd (o := .lst []) ne
      have he : upd H1 e (.lst []) e = some (.lst []) := upd_same
      generalize upd H1 e (.lst []) = H2 at s2 he
      have hr2' := s2 _ _ hr1'
      have st2 := st1.kt (kt_same s2)
      have s12 := s1.trans s2
      have kc : ∀ p ∈ kindsD zs D zs, 1 ≤ p.2.2 ∧ p.2.2 ≤ 10 ^ 58 ∧ p.2.1 ∈ zs ∧ (p.1 = "pay" ∨ p.1 = "clear") ∧ ∀ m, 1 ≤ m → m ≤ p.2.2 → ∃ r, CanD zs D p.1 p.2.1 m r := fun p hp => kind_can g gb (fun y hy => hy) hp
      obtain ⟨n, hn, ln⟩ := nice_steps (zs := zs) g.nz.nm (W := kindsD zs D zs) fun p hp => ⟨(kc p hp).1, (kc p hp).2.1, (kc p hp).2.2.1, (kc p hp).2.2.2.1⟩
      have k0 := kinds_none (zs := zs) (D := D) g
      refine ⟨.list ((kindsD zs D zs).map stepD3), .list [], .lst (.inl (.inl hr2')) (StsAt.dp st2), .lst (.inl (.inl he)) .nil, nice_shaped hn.list, shaped_nil, _, rfl, ?_⟩
      generalize kindsD zs D zs = W at st2 kc k0
      cases W with
      | nil => exact iteT (q0 (k0 rfl) H2 s12)
      | cons w0 wr =>
        have lx1 := st2.1
        rw [List.length_cons] at lx1
        have hp2 := hp.same s12
        have rp : r ≠ p := hp.ne nr
        refine iteF ⟨.ref p, rfl, .ref r, rfl, p, _, rfl, hp2, .inr ⟨r, xs, rfl, rp, hr2', by omega, by omega, fun v H3 hv hp3 bt3 => ?_⟩⟩
        obtain ⟨i, hi, ev⟩ := List.getElem_of_mem hv
        have hiW : i < (w0 :: wr).length := by
          rw [List.length_cons]
          omega
        obtain ⟨t, et, ht⟩ := st2.2 i v (w0 :: wr)[i] (by rw [← ev]; exact List.getElem?_eq_getElem hi) (List.getElem?_eq_getElem hiW)
        subst et
        obtain ⟨c1, c58, hzz, hk, can⟩ := kc _ (List.getElem_mem hiW)
        have ht3 := bt3.kt hp2 _ _ ht trivial
        generalize (w0 :: wr)[i] = pp at ht3 c1 c58 hzz hk can
        obtain ⟨wd, z, mx⟩ := pp
        refine ⟨t, _, rfl, .inl (.inl ht3), rfl, _, _, rfl, _, _, rfl, _, _, rfl, rfl, ?_⟩
        have b250 : (10 : Int) ^ 58 < 2 ^ 300 := by decide
        have c1' : 1 ≤ mx := c1
        have c58' : mx ≤ 10 ^ 58 := c58
        -- amount
        refine ⟨.int mx, rfl, .ref p, rfl, .int mx, rfl, p, mx, rfl, hp3, litM _ (by omega) (by omega), fun t4 H4 t40 t41 hp4 bt4 => ⟨1, t4, rfl, rfl, ?_⟩⟩
        refine ⟨.int mx, rfl, .ref p, rfl, p, 9, rfl, hp4, litM _ (by decide) (by decide), fun t5 H5 t50 t51 hp5 bt5 => ⟨1, t5, rfl, rfl, _, _, rfl, by show 4 ≤ sizeLine; decide, fun l6 nl6 => ?_⟩⟩
        have l6p : l6 ≠ p := hp5.ne nl6
        refine ⟨.ref p, rfl, p, 4, rfl, hp5.new nl6, litM _ (by decide) (by decide), fun u H6 u0 u1 hp6 bt6 => ?_⟩
        have hl6 := bt6 _ _ l6p (upd_same (H := H5) (a := l6))
        obtain ⟨v6, ev6, mv6⟩ := pick (xs := [V.int mx, V.int 1, V.int (1 + t4), V.int (if 1 + t5 < mx then 1 + t5 else mx)]) u0 u1
        refine ⟨l6, _, _, v6, rfl, rfl, .inl (.inl hl6), ev6, ?_⟩
        have hv6 : ∃ m : Int, v6 = .int m ∧ 1 ≤ m ∧ m ≤ mx := by
          simp only [List.mem_cons, List.not_mem_nil, or_false] at mv6
          rcases mv6 with rfl | rfl | rfl | rfl
          · exact ⟨_, rfl, c1', Int.le_refl _⟩
          · exact ⟨1, rfl, Int.le_refl _, c1'⟩
          · exact ⟨1 + t4, rfl, by omega, by omega⟩
          · exact ⟨_, rfl, by split <;> omega, by split <;> omega⟩
        obtain ⟨m, rfl, m1, mm⟩ := hv6
        obtain ⟨rr, cd⟩ := can m m1 mm
        refine ⟨.str wd, rfl, .str z, rfl, .int m, rfl, by show 3 ≤ sizeLine; decide, fun T nT => ?_⟩
        have bt36 : But p H3 H6 := bt4.trans (bt5.trans ((But.new nl6).trans bt6))
        have bt06 : But p H H6 := (same_but s12).trans (bt3.trans bt36)
        have nTH : H T = none := by
          cases eT : H T with
          | none => rfl
          | some o =>
            have := bt06 T o (hp6.ne nT) eT
            rw [nT] at this
            cases this
        exact q T wd z m rr _ nTH (bt06.trans (same_but (same_upd nT))) (hp6.new nT) upd_same cd
end
end Rc

namespace Rc
open PySem PySem.Spec PyProof.Rows L2 RZ
section
variable {P : Program} {w : World} {K : PySem.W.Frag} {mg : Str → Option Value} {base : Heap}
/-! ### _law_copied -/
abbrev sLCp : Stmt := topS 72
theorem scLCp : FnScope ["_law_model_here", "_law_found", "_law_who"] ["_law_model_here"] (defScope sLCp) := ⟨rfl, rfl, rfl, by decide +kernel, rfl, by decide +kernel, by decide +kernel⟩
def spLCp (K : PySem.W.Frag) : Sp := fun vs H Q _ => ∃ (a : MdA) (D : Md) (zs : List Str), vs = [.ref a.m] ∧ ModelAt K H zs a D ∧ NamesOk zs ∧ ∀ c H', Same H H' → (∀ x, MdA.Has c x → H x = none) → ModelAt K H' zs c D → Q (.ref c.m) H'
theorem ok_lcp {f f1 : Addr} {fd fd1 : FuncData} (F : Fun K "_law_copied" "_law_copied" sLCp f fd) (B3 : Blt3 mg) (MD : Has P w K mg base 1 "_law_model" ["_law_names_here"] (spLMd K) f1 fd1) : FnOk P w K mg base CX0 2 f fd ["_law_model_here"] (spLCp K) := by
  refine F.ok scLCp (fun vs H Q E h => ?_) (fun cdv Ar outer s H vs Q E hr h => ?_)
  · obtain ⟨_, _, _, rfl, _⟩ := h
    rfl
  · obtain ⟨a, D, zs, rfl, hM, nz, q⟩ := h
    have hu := hu_of hr
    refine ⟨_, pss_cons (ps_set (i := 1) scLCp.nd rfl (.inl rfl) (pe_call MD.ok hr (by rfl) MD.g MD.kp MD.b .nil pass0 (pa_cons (pe_dget hu (pv 0) pe_str (fun _ _ => rfl)) pa_nil)))
      (pss_cons (ps_for PassesOwn.never rfl (pi_list (pe_dget hu (pv 0) pe_str (fun _ _ => rfl))) (pg_name (i := 2) scLCp.nd rfl (.inl rfl))
        (pss_cons (ps_dput hu (pe_dget hu (pv 1) pe_str (fun _ _ => rfl)) (pv 2) (pe_dget hu (pe_dget hu (pv 0) pe_str (fun _ _ => rfl)) (pv 2) (fun _ _ => rfl)) rfl)
        (pss_cons (ps_dput hu (pe_dget hu (pv 1) pe_str (fun _ _ => rfl)) (pv 2) (pe_dget hu (pe_dget hu (pv 0) pe_str (fun _ _ => rfl)) (pv 2) (fun _ _ => rfl)) rfl)
        (pss_one (ps_dput hu (pe_dget hu (pv 1) pe_str (fun _ _ => rfl)) (pv 2) (pe_callTy call_list_of (by rfl) B3.list (by decide +kernel) (pa_cons (pe_dget hu (pe_dget hu (pv 0) pe_str (fun _ _ => rfl)) (pv 2) (fun _ _ => rfl)) pa_nil)) rfl)))))
      (pss_one (ps_ret (pv 1)))), ?_⟩
    have lz := nz.n1
    refine ⟨.ref a.m, rfl, a.m, .ref a.lo, rfl, hM.g0, a.lo, zs, rfl, hM.ho, nz.nd, by omega, fun c0 H1 s1 nc0 hC0 => ?_⟩
    have hM1 := model_same hM s1
    refine ⟨.ref a.m, rfl, a.m, .ref a.lo, rfl, hM1.g0, a.lo, rfl, ⟨_, .inl (.inl hM1.ho)⟩, ?_⟩
    refine for_it (walk_list (K := K) (a := a.lo) (xs := zs.map V.str)) (fun i σ H' => ∃ c E y2, σ = [some (.ref a.m), some (.ref c.m), y2] ∧ Same H H' ∧ ModelAt K H' zs c E ∧ (∀ x, c.Has x → H x = none) ∧ ∀ j, j < i → E.given[j]? = D.given[j]? ∧ E.fallen[j]? = D.fallen[j]? ∧ E.notes[j]? = D.notes[j]?)
      ⟨c0, newMd zs.length, _, rfl, s1, hC0, nc0, fun j hj => absurd hj (Nat.not_lt_zero _)⟩ (fun i σ H' _ hP => ?_) (fun i x σ H2' H2 hi hP hY => ?_) (fun σ H3 hP => ?_)
    · obtain ⟨_, _, _, _, sP, _⟩ := hP
      exact .inl (.inl (sP _ _ hM.ho))
    · obtain ⟨rfl, hx⟩ := hY
      obtain ⟨c, E, y2, rfl, sP, hC, nc, eqs⟩ := hP
      rw [List.length_map] at hi
      have ej : zs[i]? = some zs[i] := List.getElem?_eq_getElem hi
      have ex : x = .str zs[i] := by
        rw [List.getElem?_map, ej] at hx
        exact (Option.some.inj hx).symm
      subst ex
      generalize zs[i] = z at ej
      have hMP := model_same hM sP
      obtain ⟨gv, f', l, r, xs, eg, ef, el, er, hr0, hd0⟩ := hMP.at_ ej
      have hjg : i < E.given.length := by
        rw [hC.lg]
        exact hi
      refine ⟨.ref a.m, rfl, a.m, .ref a.dg, rfl, hMP.g1, .str z, rfl, a.dg, .int gv, rfl, hMP.gg ej eg, .ref c.m, rfl, c.m, .ref c.dg, rfl, hC.g1, .str z, rfl, c.dg, _, rfl, DPut.k (k := Sum.inr z) hC.hg (by rw [dct_len (by rw [List.length_map, hC.lg])]; exact small1000 (by omega)), ?_⟩
      rw [dct_put hC.zn ej (by rw [List.length_map]; exact hjg), map_set V.int]
      have hC1 := hC.setG (j := i) gv
      have s2 : Same H (upd H2 c.dg (.dK (dct zs ((E.given.set i gv).map V.int)))) := fun x o e => by
        rw [upd_ne (ne_of_none e (nc _ (.inr (.inr (.inl rfl)))))]
        exact sP x o e
      generalize upd H2 c.dg (.dK (dct zs ((E.given.set i gv).map V.int))) = H3 at hC1 s2
      have hM3 := model_same hM s2
      -- fallen
      have hjf : i < E.fallen.length := by
        rw [hC.lf]
        exact hi
      refine ⟨.ref a.m, rfl, a.m, .ref a.df, rfl, hM3.g2, .str z, rfl, a.df, .int f', rfl, hM3.gf ej ef, .ref c.m, rfl, c.m, .ref c.df, rfl, hC1.g2, .str z, rfl, c.df, _, rfl, DPut.k (k := Sum.inr z) hC1.hf (by rw [dct_len (by rw [List.length_map, hC1.lf])]; exact small1000 (by omega)), ?_⟩
      rw [dct_put hC1.zn ej (by rw [List.length_map]; exact hjf), map_set V.int]
      have hC2 := hC1.setF nz.n0 (j := i) f'
      have s3 : Same H (upd H3 c.df (.dK (dct zs ((E.fallen.set i f').map V.int)))) := fun x o e => by
        rw [upd_ne (ne_of_none e (nc _ (.inr (.inr (.inr (.inl rfl))))))]
        exact s2 x o e
      have hC2' : ModelAt K (upd H3 c.df (.dK (dct zs ((E.fallen.set i f').map V.int)))) zs c { E with given := E.given.set i gv, fallen := E.fallen.set i f' } := hC2
      have e3 : upd H3 c.df (.dK (dct zs ((({ E with given := E.given.set i gv } : Md).fallen.set i f').map V.int))) = upd H3 c.df (.dK (dct zs ((E.fallen.set i f').map V.int))) := rfl
      rw [e3]
      generalize upd H3 c.df (.dK (dct zs ((E.fallen.set i f').map V.int))) = H4 at hC2' s3
      have hM4 := model_same hM s3
      obtain ⟨xs3, hr3, hd3⟩ := hM4.rows i r l er el
      refine ⟨.ref a.m, rfl, a.m, .ref a.dn, rfl, hM4.g3, .str z, rfl, a.dn, .ref r, rfl, hM4.gn ej er, r, xs3, rfl, .inl (.inl (.inl hr3)), fun l2 nl2 => ?_⟩
      have s4 := same_upd (o := .lst xs3) nl2
      have hC4 := model_same hC2' s4
      have hjn : i < c.rs.length := by
        rw [hC.lr]
        exact hi
      refine ⟨.ref c.m, rfl, c.m, .ref c.dn, rfl, hC4.g3, .str z, rfl, c.dn, _, rfl, DPut.k (k := Sum.inr z) hC4.hn (by rw [dct_len (by rw [List.length_map, hC4.lr])]; exact small1000 (by omega)), ?_⟩
      rw [dct_put hC4.zn ej (by rw [List.length_map]; exact hjn), map_set V.ref]
      have nrs : l2 ∉ c.rs := fun m => by
        obtain ⟨ys, e1⟩ := hC2'.row_some m
        rw [nl2] at e1
        cases e1
      have nlo : c.lo ≠ l2 := ne_of_none hC2'.ho nl2
      have hC5 := hC4.setN (j := i) (r := l2) upd_same (DtAll.same s4 _ hd3) nrs nlo nz.n0
      have l2H : H l2 = none := s3.free nl2
      refine ⟨{ c with rs := c.rs.set i l2 }, { E with given := E.given.set i gv, fallen := E.fallen.set i f', notes := E.notes.set i l }, _, rfl, fun x o e => ?_, hC5, fun x hx' => ?_, fun j hj => ?_⟩
      · rw [upd_ne (ne_of_none e (nc _ (.inr (.inr (.inr (.inr (.inl rfl)))))))]
        exact s4 _ _ (s3 _ _ e)
      · rcases hx' with h | h | h | h | h | h
        · exact nc x (.inl h)
        · exact nc x (.inr (.inl h))
        · exact nc x (.inr (.inr (.inl h)))
        · exact nc x (.inr (.inr (.inr (.inl h))))
        · exact nc x (.inr (.inr (.inr (.inr (.inl h)))))
        · rcases List.mem_or_eq_of_mem_set h with h | h
          · exact nc x (.inr (.inr (.inr (.inr (.inr h)))))
          · rw [h]
            exact l2H
      · show (E.given.set i gv)[j]? = _ ∧ (E.fallen.set i f')[j]? = _ ∧ (E.notes.set i l)[j]? = _
        by_cases hji : j = i
        · subst hji
          rw [List.getElem?_set_self hjg, List.getElem?_set_self hjf, List.getElem?_set_self (by rw [hC.ln]; exact hi), eg, ef, el]
          exact ⟨rfl, rfl, rfl⟩
        · rw [List.getElem?_set_ne (fun z => hji z.symm), List.getElem?_set_ne (fun z => hji z.symm), List.getElem?_set_ne (fun z => hji z.symm)]
          exact eqs j (by omega)
    · obtain ⟨c, E, y2, rfl, s3, hC3, nc, eqs⟩ := hP
      rw [List.length_map] at eqs
      have eE : E = D := by
        refine md_ext (List.ext_getElem? fun j => ?_) (List.ext_getElem? fun j => ?_) (List.ext_getElem? fun j => ?_)
        · by_cases hj : j < zs.length
          · exact (eqs j hj).1
          · rw [List.getElem?_eq_none (by rw [hC3.lg]; omega), List.getElem?_eq_none (by rw [hM.lg]; omega)]
        · by_cases hj : j < zs.length
          · exact (eqs j hj).2.1
          · rw [List.getElem?_eq_none (by rw [hC3.lf]; omega), List.getElem?_eq_none (by rw [hM.lf]; omega)]
        · by_cases hj : j < zs.length
          · exact (eqs j hj).2.2
          · rw [List.getElem?_eq_none (by rw [hC3.ln]; omega), List.getElem?_eq_none (by rw [hM.ln]; omega)]
      subst eE
      exact ⟨.ref c.m, rfl, q c H3 s3 nc hC3⟩
end
end Rc

namespace Rc
open PySem PySem.Spec PyProof.Rows L2 RZ
/-! ### deeds at a book of which some has fallen -/
theorem gone_snoc {x : Str × Int} (hx : 1 ≤ x.2) : ∀ {l : List (Str × Int)} {f : Int}, (∀ n ∈ l, 1 ≤ n.2) → 0 ≤ f → f ≤ wholeN l → goneN (l ++ [x]) f = goneN l f
  | [], f, _, f0, fw => by
    have e : wholeN [] = 0 := rfl
    rw [e] at fw
    have e0 : f = 0 := by omega
    subst e0
    obtain ⟨t, a⟩ := x
    have ha : 1 ≤ a := hx
    show goneN [(t, a)] 0 = goneN [] 0
    rw [goneN_cons, goneN_nil, goneN_nil]
    have : partOf a 0 = 0 := by
      unfold partOf
      rw [if_pos (by omega)]
    rw [this, if_neg (by omega)]
    rfl
  | (t, a) :: r, f, h, f0, fw => by
    have h1 : 1 ≤ a := h _ List.mem_cons_self
    have hr : ∀ n ∈ r, 1 ≤ n.2 := fun m hm => h m (List.mem_cons_of_mem _ hm)
    have w0 := wholeN_nonneg hr
    rw [wholeN_cons] at fw
    have fw' : f ≤ a + wholeN r := fw
    show goneN ((t, a) :: (r ++ [x])) f = _
    rw [goneN_cons, goneN_cons]
    have hp : 0 ≤ f - partOf a f ∧ f - partOf a f ≤ wholeN r := by
      unfold partOf
      split <;> omega
    rw [gone_snoc hx hr hp.1 hp.2]
theorem whole_snoc (l : List (Str × Int)) (x : Str × Int) : wholeN (l ++ [x]) = wholeN l + x.2 := by
  unfold wholeN
  rw [List.map_append, List.sum_append]
  simp
structure Bd (D : Md) (k : Nat) : Prop where
  gv : ∀ g ∈ D.given, 0 ≤ g ∧ g ≤ (k : Int) * 10 ^ 58
  my : (D.notes.map List.length).sum ≤ k
theorem Gd.bd {zs : List Str} {D : Md} {k : Nat} (h : Gd zs D k) : Bd D k := ⟨h.gv, h.my⟩
theorem deed_ok {zs : List Str} {D : Md} {k : Nat} {d : Deed} (g : Gs zs D) (gb : Gb D) (bd : Bd D k) (hk : k + 1 ≤ 60) (od : d.Ok zs) : Gs zs (doneD zs D d) ∧ Gb (doneD zs D d) ∧ Bd (doneD zs D d) (k + 1) := by
  have mono : ∀ g ∈ D.given, 0 ≤ g ∧ g ≤ ((k + 1 : Nat) : Int) * 10 ^ 58 := fun g hg => by
    obtain ⟨a, b⟩ := bd.gv g hg
    refine ⟨a, Int.le_trans b (Int.mul_le_mul_of_nonneg_right (by omega) (by decide))⟩
  have le100 : ∀ {x : Int}, x ≤ ((k + 1 : Nat) : Int) * 10 ^ 58 → x ≤ 100 * 10 ^ 58 := fun {x} hx => Int.le_trans hx (Int.mul_le_mul_of_nonneg_right (by omega) (by decide))
  cases d with
  | give z n =>
    obtain ⟨hz, n1, n2⟩ := od
    have hj : zs.idxOf z < D.given.length := by
      rw [g.lg]
      exact List.idxOf_lt_length_of_mem hz
    have b' : Bd (doneD zs D (.give z n)) (k + 1) := by
      refine ⟨fun x hx => ?_, Nat.le_succ_of_le bd.my⟩
      rcases List.mem_or_eq_of_mem_set hx with hx | hx
      · exact mono x hx
      · obtain ⟨a, b⟩ := bd.gv (D.given.getD (zs.idxOf z) 0) (by
          rw [List.getD_eq_getElem?_getD, List.getElem?_eq_getElem hj]
          exact List.getElem_mem hj)
        have e : ((k + 1 : Nat) : Int) * 10 ^ 58 = (k : Int) * 10 ^ 58 + 10 ^ 58 := by
          rw [Int.natCast_add, Int.add_mul]
          rfl
        rw [hx, e]
        omega
    refine ⟨⟨g.nz, g.nt, g.fl, g.my, by show (D.given.set _ _).length = _; rw [List.length_set]; exact g.lg, g.lf, g.ln, fun j y ej => ?_⟩, ⟨fun x hx => ⟨(b'.gv x hx).1, le100 (b'.gv x hx).2⟩, gb.fw⟩, b'⟩
    have c0 := g.cs j y ej
    rw [cash_eq] at c0 ⊢
    unfold cashD at c0 ⊢
    show 0 ≤ (D.given.set (zs.idxOf z) (D.given.getD (zs.idxOf z) 0 + n)).getD j 0 - D.fallen.getD j 0 + sumsD D y
    by_cases e : j = zs.idxOf z
    · subst e
      have : (D.given.set (zs.idxOf z) (D.given.getD (zs.idxOf z) 0 + n)).getD (zs.idxOf z) 0 = D.given.getD (zs.idxOf z) 0 + n := getD_of (List.getElem?_set_self hj)
      rw [this]
      omega
    · have : (D.given.set (zs.idxOf z) (D.given.getD (zs.idxOf z) 0 + n)).getD j 0 = D.given.getD j 0 := by
        rw [List.getD_eq_getElem?_getD, List.getElem?_set_ne (fun z => e z.symm)]
        exact (List.getD_eq_getElem?_getD).symm
      rw [this]
      exact c0
  | put z y n =>
    obtain ⟨hz, hy, n1, n2⟩ := od
    have hj : zs.idxOf z < D.notes.length := by
      rw [g.ln]
      exact List.idxOf_lt_length_of_mem hz
    have hjf : zs.idxOf z < D.fallen.length := by
      rw [g.lf]
      exact List.idxOf_lt_length_of_mem hz
    have el := List.getElem?_eq_getElem hj
    have ef := List.getElem?_eq_getElem hjf
    have e0 : D.notes.getD (zs.idxOf z) [] = D.notes[zs.idxOf z] := getD_of el
    have b' : Bd (doneD zs D (.put z y n)) (k + 1) := by
      refine ⟨mono, ?_⟩
      have := sum_set D.notes (zs.idxOf z) (D.notes.getD (zs.idxOf z) [] ++ [(y, n)]) hj
      rw [List.length_append] at this
      have e1 : [(y, n)].length = 1 := rfl
      have := bd.my
      show ((D.notes.set _ _).map List.length).sum ≤ k + 1
      omega
    have hn1 : ∀ x ∈ D.notes[zs.idxOf z], 1 ≤ x.2 := fun x hx => (g.nt _ (List.getElem_mem hj) x hx).2.1
    have f0 := g.fl _ (List.getElem_mem hjf)
    have fw := gb.fw _ _ _ el ef
    have gs : goneN (D.notes.getD (zs.idxOf z) [] ++ [(y, n)]) D.fallen[zs.idxOf z] = goneN D.notes[zs.idxOf z] D.fallen[zs.idxOf z] := by
      rw [e0]
      exact gone_snoc n1 hn1 f0 fw
    have sm : ∀ q, sumsD (doneD zs D (.put z y n)) q = sumsD D q := fun q => by
      unfold sumsD
      congr 1
      have hl : (D.notes.set (zs.idxOf z) (D.notes.getD (zs.idxOf z) [] ++ [(y, n)])).length = D.notes.length := List.length_set
      refine List.ext_getElem (by show ((List.zip (D.notes.set _ _) D.fallen).map _).length = _; simp) fun i h1 h2 => ?_
      simp only [List.length_map, List.length_zip] at h2
      show (((D.notes.set (zs.idxOf z) (D.notes.getD (zs.idxOf z) [] ++ [(y, n)])).zip D.fallen).map fun p => sumTo q (goneN p.1 p.2))[i]'(by simp; omega) = _
      simp only [List.getElem_map, List.getElem_zip]
      by_cases e : i = zs.idxOf z
      · subst e
        rw [List.getElem_set_self]
        exact congrArg (sumTo q) gs
      · rw [List.getElem_set_ne (fun z => e z.symm)]
    refine ⟨⟨g.nz, fun l hl m hm => ?_, g.fl, Nat.le_trans b'.my hk, g.lg, g.lf, by show (D.notes.set _ _).length = _; rw [List.length_set]; exact g.ln, fun j q ej => ?_⟩, ⟨fun x hx => ⟨(b'.gv x hx).1, le100 (b'.gv x hx).2⟩, fun j l f e1 e2 => ?_⟩, b'⟩
    · rcases List.mem_or_eq_of_mem_set hl with hl | hl
      · exact g.nt l hl m hm
      · rw [hl] at hm
        rcases List.mem_append.mp hm with hm | hm
        · rw [e0] at hm
          exact g.nt _ (List.getElem_mem hj) m hm
        · rw [List.mem_singleton.mp hm]
          exact ⟨hy, n1, n2⟩
    · have c0 := g.cs j q ej
      rw [cash_eq] at c0 ⊢
      unfold cashD at c0 ⊢
      rw [sm]
      exact c0
    · have e1' : (D.notes.set (zs.idxOf z) (D.notes.getD (zs.idxOf z) [] ++ [(y, n)]))[j]? = some l := e1
      have e2' : D.fallen[j]? = some f := e2
      by_cases e : j = zs.idxOf z
      · subst e
        rw [List.getElem?_set_self hj, e0] at e1'
        rw [ef] at e2'
        cases e1'
        cases e2'
        rw [whole_snoc]
        have : 1 ≤ n := n1
        show _ ≤ _ + n
        omega
      · rw [List.getElem?_set_ne (fun z => e z.symm)] at e1'
        exact gb.fw j l f e1' e2'
end Rc

namespace Rc
open PySem PySem.Spec PyProof.Rows L2 RZ
/-! ### how many turns a course has -/
theorem sumOn_ind {S : List Str} (nd : S.Nodup) {z : Str} (hz : z ∈ S) (m : Int) : sumOn S (fun y => if z = y then m else 0) = m := by
  induction S with
  | nil => cases hz
  | cons y r ih =>
    obtain ⟨n1, n2⟩ := List.nodup_cons.mp nd
    have e : sumOn (y :: r) (fun y => if z = y then m else 0) = (if z = y then m else 0) + sumOn r (fun y => if z = y then m else 0) := rfl
    rw [e]
    by_cases h : z = y
    · have e0 : sumOn r (fun y => if z = y then m else 0) = sumOn r (fun _ => 0) := sumOn_congr fun x hx => if_neg fun c => n1 (by rw [← h, c]; exact hx)
      rw [if_pos h, e0, sumOn_zero]
      omega
    · rw [if_neg h, ih n2 ((List.mem_cons.mp hz).resolve_left h)]
      omega
theorem sumOn_const (S : List Str) (c : Int) : sumOn S (fun _ => c) = S.length * c := by
  induction S with
  | nil => unfold sumOn; simp
  | cons y r ih =>
    have e : sumOn (y :: r) (fun _ => c) = c + sumOn r (fun _ => c) := rfl
    rw [e, ih, List.length_cons, Int.natCast_add, Int.add_mul]
    simp
    omega
/-- where there is no ring, each trail ends -/
theorem trail_stops {zs : List Str} {nx : Str → Option Str} (ld : Leads zs nx) (nr : ∀ z ∈ zs, ringM zs nx z = none) {z : Str} (hz : z ∈ zs) : nx (lastM zs nx z) = none := by
  have en := trail_ended ld hz
  have ch := trailM_chain zs nx z
  obtain ⟨tl, eT⟩ := en.first
  obtain ⟨ini, y, eT2, ed⟩ := en.last
  have eL := lastM_eq eT2
  cases h : nx (lastM zs nx z) with
  | none => rfl
  | some x =>
    have hx := en.back x h
    obtain ⟨z', r', hz', hr'⟩ := stay_ring ld (z0 := z) (S := trailM zs nx z) (by rw [eT]; exact List.mem_cons_self) en.sub fun u hu => by
      obtain ⟨i, hi, eu⟩ := List.getElem_of_mem hu
      by_cases hl : i + 1 < (trailM zs nx z).length
      · exact ⟨_, ch i u _ (by rw [List.getElem?_eq_getElem hi, eu]) (List.getElem?_eq_getElem hl), List.getElem_mem hl⟩
      · have e1 : (trailM zs nx z)[i]? = some u := by rw [List.getElem?_eq_getElem hi, eu]
        have lT : (trailM zs nx z).length = ini.length + 1 := by rw [eT2, List.length_append]; rfl
        have ei : i = ini.length := by omega
        rw [ei, eT2, List.getElem?_append_right (Nat.le_refl _), Nat.sub_self] at e1
        have euy : y = u := Option.some.inj e1
        rw [eL, euy] at h
        exact ⟨x, h, hx⟩
    rw [nr z' hz'] at hr'
    cases hr'
theorem trail_longer {zs : List Str} {nx : Str → Option Str} (ld : Leads zs nx) (nr : ∀ z ∈ zs, ringM zs nx z = none) {z t : Str} (hz : z ∈ zs) (ht : nx z = some t) : (trailM zs nx t).length + 1 ≤ (trailM zs nx z).length := by
  have htz := ld z t ht
  have e1 := trail_ended ld hz
  have e2 := trail_ended ld htz
  have c1 := trailM_chain zs nx z
  have c2 := trailM_chain zs nx t
  have s1 := trail_stops ld nr hz
  obtain ⟨tl1, f1⟩ := e1.first
  obtain ⟨tl2, f2⟩ := e2.first
  obtain ⟨ini, y, l1, _⟩ := e1.last
  have eL := lastM_eq l1
  rw [eL] at s1
  -- one that leads on is not the last
  have on : ∀ (i : Nat) (x x' : Str), (trailM zs nx z)[i]? = some x → nx x = some x' → (trailM zs nx z)[i + 1]? = some x' := fun i x x' h h' => by
    have hi := (List.getElem?_eq_some_iff.mp h).1
    by_cases hl : i + 1 < (trailM zs nx z).length
    · have := c1 i x _ h (List.getElem?_eq_getElem hl)
      rw [h'] at this
      rw [List.getElem?_eq_getElem hl, ← Option.some.inj this]
    · have lT : (trailM zs nx z).length = ini.length + 1 := by rw [l1, List.length_append]; rfl
      have ei : i = ini.length := by omega
      rw [ei, l1, List.getElem?_append_right (Nat.le_refl _), Nat.sub_self] at h
      have : y = x := Option.some.inj h
      rw [this, h'] at s1
      cases s1
  have all : ∀ (i : Nat) (x : Str), (trailM zs nx t)[i]? = some x → (trailM zs nx z)[i + 1]? = some x := fun i => by
    induction i with
    | zero =>
      intro x hx
      rw [f2] at hx
      have : t = x := Option.some.inj hx
      rw [← this]
      exact on 0 z t (by rw [f1]; rfl) ht
    | succ i ih =>
      intro x hx
      have hi : i < (trailM zs nx t).length := by
        have := (List.getElem?_eq_some_iff.mp hx).1
        omega
      have h1 := List.getElem?_eq_getElem hi
      exact on (i + 1) _ x (ih _ h1) (c2 i _ _ h1 hx)
  have hl : 0 < (trailM zs nx t).length := by rw [f2]; exact Nat.succ_pos _
  have := all ((trailM zs nx t).length - 1) _ (List.getElem?_eq_getElem (by omega))
  have := (List.getElem?_eq_some_iff.mp this).1
  omega
/-- how many notes are left -/
def nleft (D : Md) : Int := ((D.notes.zip D.fallen).map fun p => ((leftN p.1 p.2).length : Int)).sum
theorem nleft_low (D : Md) : 0 ≤ nleft D := by
  unfold nleft
  generalize D.notes.zip D.fallen = L
  induction L with
  | nil => exact Int.le_refl _
  | cons p r ih =>
    simp only [List.map_cons, List.sum_cons]
    omega
theorem nleft_top {zs : List Str} {D : Md} (g : Gs zs D) : nleft D ≤ 60 := by
  have my := g.my
  unfold nleft
  have : ∀ (L : List (List (Str × Int))) (fs : List Int), ((L.zip fs).map fun p => ((leftN p.1 p.2).length : Int)).sum ≤ ((L.map List.length).sum : Nat) := fun L => by
    induction L with
    | nil => intro fs; simp
    | cons l L ih =>
      intro fs
      cases fs with
      | nil => simp; omega
      | cons f fs =>
        have := ih fs
        have := leftN_len l f
        simp only [List.zip_cons_cons, List.map_cons, List.sum_cons]
        omega
  have := this D.notes D.fallen
  omega
theorem nleft_fell {D : Md} {j : Nat} {l : List (Str × Int)} {f m b : Int} {t : Str} {r : List (Str × Int)} (hn : ∀ n ∈ l, 1 ≤ n.2) (f0 : 0 ≤ f) (el : D.notes[j]? = some l) (ef : D.fallen[j]? = some f) (e : leftN l f = (t, b) :: r) (m0 : 0 ≤ m) (mb : m ≤ b) :
    nleft (fellD D j (f + m)) = nleft D - if m < b then 0 else 1 := by
  show ((D.notes.zip (D.fallen.set j (f + m))).map fun p => ((leftN p.1 p.2).length : Int)).sum = ((D.notes.zip D.fallen).map fun p => ((leftN p.1 p.2).length : Int)).sum - _
  rw [sum_zip_set (α := Nat) (fun p => ((leftN p.1 p.2).length : Int)) D.notes D.fallen j l f (f + m) el ef]
  show _ + (((leftN l (f + m)).length : Int) - ((leftN l f).length : Int)) = _
  rw [left_fall hn f0 m0 mb e, e]
  split <;> simp <;> omega
def canP (zs : List Str) (D : Md) (z : Str) : Int := if 0 < mostP (bkOf zs D) (zs.idxOf z) z then ((trailM zs (nxD zs D) z).length : Int) else 0
def phi (zs : List Str) (D : Md) : Int := sumOn zs (canP zs D)
theorem trail_12 {zs : List Str} {nx : Str → Option Str} {z : Str} (ld : Leads zs nx) (hz : z ∈ zs) : (trailM zs nx z).length ≤ zs.length := nodup_le _ _ (trail_ended ld hz).nd (trail_ended ld hz).sub
theorem phi_bound {zs : List Str} {D : Md} (g : Gs zs D) : 0 ≤ phi zs D ∧ phi zs D ≤ 144 := by
  have h12 := g.nz.n1
  have c : ∀ z ∈ zs, 0 ≤ canP zs D z ∧ canP zs D z ≤ 12 := fun z hz => by
    have : (trailM zs (nxD zs D) z).length ≤ zs.length := trail_12 g.walks.ld hz
    unfold canP
    split <;> omega
  unfold phi
  have a := sumOn_le (S := zs) (h := fun _ => 0) (k := canP zs D) fun z hz => (c z hz).1
  have b := sumOn_le (S := zs) (h := canP zs D) (k := fun _ => 12) fun z hz => (c z hz).2
  rw [sumOn_zero] at a
  rw [sumOn_const] at b
  omega
/-- what lessens at each turn -/
def turnsM (zs : List Str) (D : Md) : Nat := (145 * nleft D + phi zs D).toNat
theorem turns_top {zs : List Str} {D : Md} (g : Gs zs D) : turnsM zs D ≤ 8844 := by
  have := nleft_top g
  have := phi_bound g
  unfold turnsM
  omega
theorem turns_less {zs : List Str} {D E : Md} (g : Gs zs D) (g' : Gs zs E) (h : nleft E < nleft D ∨ (nleft E = nleft D ∧ phi zs E < phi zs D)) : turnsM zs E < turnsM zs D := by
  have := phi_bound g
  have := phi_bound g'
  have := nleft_low E
  have := nleft_low D
  unfold turnsM
  omega
theorem dues_fell {zs : List Str} {D : Md} {j : Nat} {l : List (Str × Int)} {x : Int} (el : D.notes[j]? = some l) (hj : j < D.fallen.length) (i : Nat) : (duesM (bkOf zs (fellD D j x))).getD i none = if i = j then (leftN l x).head? else (duesM (bkOf zs D)).getD i none := by
  by_cases h : i = j
  · subst h
    rw [if_pos rfl]
    exact getD_of (dues_at (M := bkOf zs (fellD D i x)) el (List.getElem?_set_self hj))
  · rw [if_neg h, List.getD_eq_getElem?_getD, List.getD_eq_getElem?_getD]
    congr 1
    show ((D.notes.zip (D.fallen.set j x)).map fun p => (leftN p.1 p.2).head?)[i]? = ((D.notes.zip D.fallen).map fun p => (leftN p.1 p.2).head?)[i]?
    rw [List.getElem?_map, List.getElem?_map]
    congr 1
    simp only [List.zip, List.getElem?_zipWith, List.getElem?_set_ne (fun c => h c.symm)]
/-- a pay of the most -/
theorem pay_less {zs : List Str} {D : Md} {z t : Str} {l r : List (Str × Int)} {f b m : Int} (g : Gs zs D) (gb : Gb D) (nr : ∀ y ∈ zs, ringM zs (nxD zs D) y = none) (hz : z ∈ zs) (el : D.notes[zs.idxOf z]? = some l) (ef : D.fallen[zs.idxOf z]? = some f) (e : leftN l f = (t, b) :: r)
    (em : m = if cashM (bkOf zs D) (zs.idxOf z) z < b then cashM (bkOf zs D) (zs.idxOf z) z else b) (m1 : 0 < m) : Gs zs (fellD D (zs.idxOf z) (f + m)) ∧ Gb (fellD D (zs.idxOf z) (f + m)) ∧ turnsM zs (fellD D (zs.idxOf z) (f + m)) < turnsM zs D := by
  have mb : m ≤ b := by rw [em]; split <;> omega
  have mc : m ≤ cashM (bkOf zs D) (zs.idxOf z) z := by rw [em]; split <;> omega
  have hn : ∀ n ∈ l, 1 ≤ n.2 := fun n hn => (g.nt l (List.mem_of_getElem? el) n hn).2.1
  have f0 := g.fl f (List.mem_of_getElem? ef)
  have ej := idx_get hz
  obtain ⟨g', _⟩ := g.fall ej el ef e (by omega) mb (.inr mc)
  have gb' := gb.fell el (fall_one hn f0 (by omega) mb e).1
  refine ⟨g', gb', turns_less g g' ?_⟩
  have nf := nleft_fell hn f0 el ef e (show 0 ≤ m by omega) mb
  have hj : zs.idxOf z < D.fallen.length := (List.getElem?_eq_some_iff.mp ef).1
  by_cases hmb : m < b
  · right
    rw [if_pos hmb] at nf
    refine ⟨by omega, ?_⟩
    have mcash : m = cashM (bkOf zs D) (zs.idxOf z) z := by
      rw [em]
      split
      · rfl
      · rename_i h
        rw [if_neg h] at em
        omega
    have ld := g.walks.ld
    have hnx : nxD zs D z = some t := by
      rw [nxD_at g.nz.nd ej el ef, e]
      rfl
    have lon : (trailM zs (nxD zs D) t).length + 1 ≤ (trailM zs (nxD zs D) z).length := trail_longer ld nr hz hnx
    have tz : ¬ t = z := fun c => by rw [c] at lon; omega
    have lf := left_fall hn f0 (show 0 ≤ m by omega) mb e
    rw [if_pos hmb] at lf
    have du := fun i => dues_fell (zs := zs) (x := f + m) el hj i
    have eD : (duesM (bkOf zs D)).getD (zs.idxOf z) none = some (t, b) := by
      rw [getD_of (dues_at (M := bkOf zs D) el ef), e]
      rfl
    have enx : nxD zs (fellD D (zs.idxOf z) (f + m)) = nxD zs D := funext fun y => by
      show ((duesM (bkOf zs (fellD D (zs.idxOf z) (f + m)))).getD (zs.idxOf y) none).map (·.1) = ((duesM (bkOf zs D)).getD (zs.idxOf y) none).map (·.1)
      rw [du]
      by_cases h : zs.idxOf y = zs.idxOf z
      · rw [if_pos h, h, eD, lf]
        rfl
      · rw [if_neg h]
    have cash := fun (y : Str) (hy : y ∈ zs) => fellD_cash g ej el ef e (show 0 ≤ m by omega) mb (idx_get hy)
    have inj : ∀ y ∈ zs, zs.idxOf y = zs.idxOf z → y = z := fun y hy h => by
      have := idx_get hy
      rw [h, ej] at this
      exact (Option.some.inj this).symm
    have pw : ∀ y ∈ zs, canP zs (fellD D (zs.idxOf z) (f + m)) y ≤ canP zs D y + ((if t = y then ((trailM zs (nxD zs D) z).length : Int) - 1 else 0) - if z = y then ((trailM zs (nxD zs D) z).length : Int) else 0) := fun y hy => by
      have cy := cash y hy
      have dy := du (zs.idxOf y)
      unfold canP
      rw [enx]
      by_cases h1 : z = y
      · subst h1
        rw [if_pos rfl, if_neg tz]
        rw [if_neg tz, if_pos rfl] at cy
        rw [if_pos rfl, lf] at dy
        have p1 : mostP (bkOf zs D) (zs.idxOf z) z = m := by rw [mostP_some eD]; exact em.symm
        have p2 : mostP (bkOf zs (fellD D (zs.idxOf z) (f + m))) (zs.idxOf z) z ≤ 0 := by
          rw [mostP_some dy]
          split <;> omega
        rw [if_neg (by omega), p1, if_pos m1]
        omega
      · rw [if_neg h1]
        by_cases h2 : t = y
        · subst h2
          rw [if_pos rfl]
          split <;> split <;> omega
        · rw [if_neg h2]
          have hi : ¬ zs.idxOf y = zs.idxOf z := fun c => h1 (inj y hy c).symm
          rw [if_neg hi] at dy
          rw [if_neg h2, if_neg hi] at cy
          have p : mostP (bkOf zs (fellD D (zs.idxOf z) (f + m))) (zs.idxOf y) y = mostP (bkOf zs D) (zs.idxOf y) y := by
            cases hd : (duesM (bkOf zs D)).getD (zs.idxOf y) none with
            | none =>
              rw [hd] at dy
              rw [mostP_none dy, mostP_none hd]
            | some n =>
              rw [hd] at dy
              rw [mostP_some dy, mostP_some hd, cy, Int.add_zero, Int.sub_zero]
          rw [p]
          omega
    have := sumOn_le pw
    rw [sumOn_add, sumOn_sub, sumOn_ind g.nz.nd hz, sumOn_ind g.nz.nd (ld z t hnx)] at this
    show sumOn zs (canP zs (fellD D (zs.idxOf z) (f + m))) < sumOn zs (canP zs D)
    omega
  · left
    rw [if_neg hmb] at nf
    omega
/-- those in a ring have due notes of its least amount -/
theorem ring_duesOf {zs : List Str} {D : Md} {z : Str} {m : Int} {r : List Str} (g : Gs zs D) (hz : z ∈ zs) (hR : ringM zs (nxD zs D) z = some r) (mm : m ≤ leastI (r.map (amtAt zs (duesM (bkOf zs D))))) : DuesOf zs D (nxD zs D) m r := fun x hx => by
  have wk := g.walks
  obtain ⟨p, nr, sub, ne⟩ := ring_perm wk.ld hz hR
  have rd := ring_due wk.ld hz hR
  obtain ⟨hxz, t, ht⟩ := rd x hx
  have hj : zs.idxOf x < zs.length := List.idxOf_lt_length_of_mem hxz
  have h1 : zs.idxOf x < D.notes.length := by rw [g.ln]; exact hj
  have h2 : zs.idxOf x < D.fallen.length := by rw [g.lf]; exact hj
  have el := List.getElem?_eq_getElem h1
  have ef := List.getElem?_eq_getElem h2
  have hnx : nxD zs D x = some t := ht
  rw [nxD_at g.nz.nd (idx_get hxz) el ef] at hnx
  cases hL : leftN D.notes[zs.idxOf x] D.fallen[zs.idxOf x] with
  | nil =>
    rw [hL] at hnx
    cases hnx
  | cons n rest =>
    obtain ⟨t', b⟩ := n
    rw [hL] at hnx
    have e1 : t' = t := Option.some.inj hnx
    subst e1
    have ea : amtAt zs (duesM (bkOf zs D)) x = b := by
      unfold amtAt
      have eo : (duesM (bkOf zs D)).getD (zs.idxOf x) none = (leftN D.notes[zs.idxOf x] D.fallen[zs.idxOf x]).head? := getD_of (dues_at (M := bkOf zs D) el ef)
      rw [eo, hL]
      rfl
    have hb : m ≤ b := by
      have := (least_mem (ns := r.map (amtAt zs (duesM (bkOf zs D)))) (by simpa using ne)).2 _ (List.mem_map.mpr ⟨x, hx, rfl⟩)
      omega
    exact ⟨_, _, t', b, rest, el, ef, fun n hn => (g.nt _ (List.getElem_mem h1) n hn).2.1, g.fl _ (List.getElem_mem h2), hL, hb, ht⟩
theorem DuesOf.tail {zs : List Str} {D : Md} {nx : Str → Option Str} {m f : Int} {x : Str} {r : List Str} (du : DuesOf zs D nx m (x :: r)) (nr : (x :: r).Nodup) (sub : ∀ y ∈ x :: r, y ∈ zs) : DuesOf zs (fellD D (zs.idxOf x) f) nx m r := fun x' hx' => by
  obtain ⟨l2, f2, t2, b2, rest2, el2, ef2, hn2, f02, eL2, mb2, ex2⟩ := du x' (List.mem_cons_of_mem _ hx')
  obtain ⟨n1, n2⟩ := List.nodup_cons.mp nr
  have hne : zs.idxOf x ≠ zs.idxOf x' := fun c => by
    have e1 := idx_get (sub x List.mem_cons_self)
    have e2 := idx_get (sub x' (List.mem_cons_of_mem _ hx'))
    rw [c, e2] at e1
    exact n1 (Option.some.inj e1 ▸ hx')
  refine ⟨l2, f2, t2, b2, rest2, el2, ?_, hn2, f02, eL2, mb2, ex2⟩
  show (D.fallen.set _ _)[_]? = _
  rw [List.getElem?_set_ne hne]
  exact ef2
theorem nleft_all {zs : List Str} {nx : Str → Option Str} {m : Int} (m0 : 0 ≤ m) : ∀ (r : List Str) (D : Md), r.Nodup → (∀ y ∈ r, y ∈ zs) → DuesOf zs D nx m r → nleft (fallAll zs D r m) ≤ nleft D ∧
    ((∃ x ∈ r, (duesM (bkOf zs D)).getD (zs.idxOf x) none = (nx x).map fun t => (t, m)) → nleft (fallAll zs D r m) < nleft D)
  | [], D, _, _, _ => ⟨Int.le_refl _, fun ⟨_, h, _⟩ => by cases h⟩
  | x :: r, D, nr, sub, du => by
    obtain ⟨l, f, t, b, rest, el, ef, hn, f0, eL, mb, ex⟩ := du x List.mem_cons_self
    have nf := nleft_fell hn f0 el ef eL m0 mb
    rw [fallAll_cons, getD_of ef]
    obtain ⟨i1, i2⟩ := nleft_all m0 r (fellD D (zs.idxOf x) (f + m)) (List.nodup_cons.mp nr).2 (fun y hy => sub y (List.mem_cons_of_mem _ hy)) (du.tail nr sub)
    have hj : zs.idxOf x < D.fallen.length := (List.getElem?_eq_some_iff.mp ef).1
    refine ⟨by split at nf <;> omega, ?_⟩
    rintro ⟨x', hx', e'⟩
    rcases List.mem_cons.mp hx' with c | c
    · subst c
      rw [getD_of (dues_at (M := bkOf zs D) el ef), eL, ex] at e'
      have : b = m := (Prod.mk.inj (Option.some.inj e')).2
      rw [if_neg (by omega)] at nf
      omega
    · have hne : ¬ zs.idxOf x' = zs.idxOf x := fun h => by
        have e1 := idx_get (sub x List.mem_cons_self)
        have e2 := idx_get (sub x' (List.mem_cons_of_mem _ c))
        rw [h, e1] at e2
        exact (List.nodup_cons.mp nr).1 (Option.some.inj e2 ▸ c)
      have := i2 ⟨x', c, by rw [dues_fell el hj, if_neg hne]; exact e'⟩
      split at nf <;> omega
/-- a ring cleared by all that it can be -/
theorem clear_less {zs : List Str} {D : Md} {z : Str} {r : List Str} (g : Gs zs D) (gb : Gb D) (hz : z ∈ zs) (hR : ringM zs (nxD zs D) z = some r) (m1 : 1 ≤ leastI (r.map (amtAt zs (duesM (bkOf zs D))))) :
    Gs zs (fallAll zs D r (leastI (r.map (amtAt zs (duesM (bkOf zs D)))))) ∧ Gb (fallAll zs D r (leastI (r.map (amtAt zs (duesM (bkOf zs D)))))) ∧ turnsM zs (fallAll zs D r (leastI (r.map (amtAt zs (duesM (bkOf zs D)))))) < turnsM zs D := by
  obtain ⟨g', gb', _, nr, sub⟩ := clear_ok g gb hz m1 hR (Int.le_refl _)
  refine ⟨g', gb', turns_less g g' (.inl ?_)⟩
  have du := ring_duesOf g hz hR (Int.le_refl _)
  have ne : r ≠ [] := (ring_perm g.walks.ld hz hR).2.2.2
  refine (nleft_all (by omega) r D nr sub du).2 ?_
  obtain ⟨x, hx, ex⟩ := List.mem_map.mp (least_mem (ns := r.map (amtAt zs (duesM (bkOf zs D)))) (by simpa using ne)).1
  refine ⟨x, hx, ?_⟩
  obtain ⟨l, f, t, b, rest, el, ef, hn, f0, eL, mb, ent⟩ := du x hx
  have eo : (duesM (bkOf zs D)).getD (zs.idxOf x) none = some (t, b) := by
    rw [getD_of (dues_at (M := bkOf zs D) el ef), eL]
    rfl
  have ea : amtAt zs (duesM (bkOf zs D)) x = b := by
    unfold amtAt
    rw [eo]
  rw [eo, ent, ← ex, ea]
  rfl
end Rc

namespace Rc
open PySem PySem.Spec PyProof.Rows L2 RZ
/-! ### sweeps -/
def stepZ (zs : List Str) (D : Md) (z : Str) : Md := match ringM zs (nxD zs D) z with
  | none => fellD D (zs.idxOf z) (D.fallen.getD (zs.idxOf z) 0 + mostP (bkOf zs D) (zs.idxOf z) z)
  | some r => fallAll zs D r (leastI (r.map (amtAt zs (duesM (bkOf zs D)))))
def sweepM (zs : List Str) (D : Md) (l : List Str) : Md := l.foldl (stepZ zs) D
theorem fell_none {zs : List Str} {D : Md} (lf : D.fallen.length = zs.length) {z : Str} (hz : z ∈ zs) : fellD D (zs.idxOf z) (D.fallen.getD (zs.idxOf z) 0 + 0) = D := by
  have hj : zs.idxOf z < D.fallen.length := by rw [lf]; exact List.idxOf_lt_length_of_mem hz
  unfold fellD
  rw [Int.add_zero, getD_of (List.getElem?_eq_getElem hj), List.set_getElem_self]
theorem mostP_low {zs : List Str} {D : Md} (g : Gs zs D) {z : Str} (hz : z ∈ zs) : 0 ≤ mostP (bkOf zs D) (zs.idxOf z) z := by
  cases h : (duesM (bkOf zs D)).getD (zs.idxOf z) none with
  | none =>
    rw [mostP_none h]
    exact Int.le_refl _
  | some n =>
    have gn : 1 ≤ n.2 ∧ n.2 ≤ 10 ^ 58 := (g.due (getD_mem h)).2
    have c0 := g.cs _ _ (idx_get hz)
    rw [mostP_some h]
    split <;> omega
/-- what one step of a sweep does -/
structure StepTo (zs : List Str) (D D' : Md) (z : Str) : Prop where
  g : Gs zs D'
  gb : Gb D'
  given : D'.given = D.given
  notes : D'.notes = D.notes
  le : nleft D' ≤ nleft D
  nx : nleft D' = nleft D → nxD zs D' = nxD zs D ∧ ringM zs (nxD zs D) z = none
  eq : nleft D' = nleft D → (∀ y ∈ zs, ringM zs (nxD zs D) y = none) → (mostP (bkOf zs D') (zs.idxOf z) z ≤ 0) ∧ ∀ y ∈ zs, y ≠ z → 0 < mostP (bkOf zs D') (zs.idxOf y) y → 0 < mostP (bkOf zs D) (zs.idxOf y) y ∨ (0 < mostP (bkOf zs D) (zs.idxOf z) z ∧ nxD zs D z = some y)
theorem step_to {zs : List Str} {D : Md} (g : Gs zs D) (gb : Gb D) {z : Str} (hz : z ∈ zs) : StepTo zs D (stepZ zs D z) z := by
  unfold stepZ
  cases hR : ringM zs (nxD zs D) z with
  | some r =>
    obtain ⟨p1, _, p2⟩ := ring_pos g hz hR
    rw [p2] at p1
    obtain ⟨gE, gbE, _⟩ := clear_less g gb hz hR p1
    obtain ⟨_, nr, sub, ne⟩ := ring_perm g.walks.ld hz hR
    have du := ring_duesOf g hz hR (Int.le_refl _)
    have lt : nleft (fallAll zs D r (leastI (r.map (amtAt zs (duesM (bkOf zs D)))))) < nleft D := by
      refine (nleft_all (by omega) r D nr sub du).2 ?_
      obtain ⟨x, hx, ex⟩ := List.mem_map.mp (least_mem (ns := r.map (amtAt zs (duesM (bkOf zs D)))) (by simpa using ne)).1
      refine ⟨x, hx, ?_⟩
      obtain ⟨l, f, t, b, rest, el, ef, hn, f0, eL, mb, ent⟩ := du x hx
      have eo : (duesM (bkOf zs D)).getD (zs.idxOf x) none = some (t, b) := by
        rw [getD_of (dues_at (M := bkOf zs D) el ef), eL]
        rfl
      have ea : amtAt zs (duesM (bkOf zs D)) x = b := by
        unfold amtAt
        rw [eo]
      rw [eo, ent, ← ex, ea]
      rfl
    obtain ⟨k1, k2, _⟩ := fallAll_keeps zs (leastI (r.map (amtAt zs (duesM (bkOf zs D))))) r D
    exact ⟨gE, gbE, k1, k2, Int.le_of_lt lt, fun e => by simp only at e; omega, fun e => by simp only at e; omega⟩
  | none =>
    simp only
    have m0 := mostP_low g hz
    by_cases hm : mostP (bkOf zs D) (zs.idxOf z) z = 0
    · rw [hm, fell_none g.lf hz]
      exact ⟨g, gb, rfl, rfl, Int.le_refl _, fun _ => ⟨rfl, hR⟩, fun _ _ => ⟨by omega, fun y _ _ h => .inl h⟩⟩
    · have hp : 0 < mostP (bkOf zs D) (zs.idxOf z) z := by omega
      have hj : zs.idxOf z < zs.length := List.idxOf_lt_length_of_mem hz
      have h1 : zs.idxOf z < D.notes.length := by rw [g.ln]; exact hj
      have h2 : zs.idxOf z < D.fallen.length := by rw [g.lf]; exact hj
      have el := List.getElem?_eq_getElem h1
      have ef := List.getElem?_eq_getElem h2
      rw [getD_of ef]
      generalize D.notes[zs.idxOf z] = l at el
      generalize D.fallen[zs.idxOf z] = f at ef
      cases hL : leftN l f with
      | nil =>
        have eD : (duesM (bkOf zs D)).getD (zs.idxOf z) none = none := by
          rw [getD_of (dues_at (M := bkOf zs D) el ef), hL]
          rfl
        rw [mostP_none eD] at hp
        omega
      | cons n r =>
        obtain ⟨t, b⟩ := n
        have eD : (duesM (bkOf zs D)).getD (zs.idxOf z) none = some (t, b) := by
          rw [getD_of (dues_at (M := bkOf zs D) el ef), hL]
          rfl
        have em := mostP_some (z := z) eD
        generalize hme : mostP (bkOf zs D) (zs.idxOf z) z = m at hm hp em m0
        have mb : m ≤ b := by
          have em : m = if cashM (bkOf zs D) (zs.idxOf z) z < b then cashM (bkOf zs D) (zs.idxOf z) z else b := em
          rw [em]; split <;> omega
        have mc : m ≤ cashM (bkOf zs D) (zs.idxOf z) z := by
          have em : m = if cashM (bkOf zs D) (zs.idxOf z) z < b then cashM (bkOf zs D) (zs.idxOf z) z else b := em
          rw [em]; split <;> omega
        have hn : ∀ n ∈ l, 1 ≤ n.2 := fun n hn => (g.nt l (List.mem_of_getElem? el) n hn).2.1
        have f0 := g.fl f (List.mem_of_getElem? ef)
        have ej := idx_get hz
        obtain ⟨g', _⟩ := g.fall ej el ef hL (by omega) mb (.inr mc)
        have gb' := gb.fell el (fall_one hn f0 (by omega) mb hL).1
        have nf := nleft_fell hn f0 el ef hL m0 mb
        have hjf : zs.idxOf z < D.fallen.length := (List.getElem?_eq_some_iff.mp ef).1
        have du := fun i => dues_fell (zs := zs) (x := f + m) el hjf i
        have lf := left_fall hn f0 m0 mb hL
        have hnx : nxD zs D z = some t := by
          rw [nxD_at g.nz.nd ej el ef, hL]
          rfl
        have enx : nleft (fellD D (zs.idxOf z) (f + m)) = nleft D → m < b ∧ nxD zs (fellD D (zs.idxOf z) (f + m)) = nxD zs D := fun e => by
          have hmb : m < b := Decidable.byContradiction fun c => by
            rw [if_neg c] at nf
            omega
          rw [if_pos hmb] at lf
          refine ⟨hmb, funext fun y => ?_⟩
          show ((duesM (bkOf zs (fellD D (zs.idxOf z) (f + m)))).getD (zs.idxOf y) none).map (·.1) = ((duesM (bkOf zs D)).getD (zs.idxOf y) none).map (·.1)
          rw [du]
          by_cases h : zs.idxOf y = zs.idxOf z
          · rw [if_pos h, h, eD, lf]
            rfl
          · rw [if_neg h]
        refine ⟨g', gb', rfl, rfl, by split at nf <;> omega, fun e => ⟨(enx e).2, hR⟩, fun e nr => ?_⟩
        obtain ⟨hmb, _⟩ := enx e
        rw [if_pos hmb] at lf
        have lon := trail_longer g.walks.ld nr hz hnx
        have tz : ¬ t = z := fun c => by rw [c] at lon; omega
        have mcash : m = cashM (bkOf zs D) (zs.idxOf z) z := by
          have em : m = if cashM (bkOf zs D) (zs.idxOf z) z < b then cashM (bkOf zs D) (zs.idxOf z) z else b := em
          rw [em]
          split
          · rfl
          · rename_i h
            rw [if_neg h] at em
            omega
        have cash := fun (y : Str) (hy : y ∈ zs) => fellD_cash g ej el ef hL m0 mb (idx_get hy)
        refine ⟨?_, fun y hy hyz hp' => ?_⟩
        · have cy := cash z hz
          have dy := du (zs.idxOf z)
          rw [if_neg tz, if_pos rfl] at cy
          rw [if_pos rfl, lf] at dy
          rw [mostP_some dy]
          split <;> omega
        · by_cases h2 : t = y
          · exact .inr ⟨by rw [hme]; exact hp, by rw [hnx, h2]⟩
          · left
            have hi : ¬ zs.idxOf y = zs.idxOf z := fun c => hyz (idx_inj hy hz c)
            have cy := cash y hy
            have dy := du (zs.idxOf y)
            rw [if_neg hi] at dy
            rw [if_neg h2, if_neg hi] at cy
            cases hd : (duesM (bkOf zs D)).getD (zs.idxOf y) none with
            | none =>
              rw [hd] at dy
              rw [mostP_none dy] at hp'
              omega
            | some n =>
              rw [hd] at dy
              rw [mostP_some dy, cy, Int.add_zero, Int.sub_zero] at hp'
              rw [mostP_some hd]
              exact hp'
theorem sweep_cons (zs : List Str) (D : Md) (z : Str) (l : List Str) : sweepM zs D (z :: l) = sweepM zs (stepZ zs D z) l := rfl
theorem sweep_keeps {zs : List Str} : ∀ (l : List Str) (D : Md), Gs zs D → Gb D → (∀ y ∈ l, y ∈ zs) → Gs zs (sweepM zs D l) ∧ Gb (sweepM zs D l) ∧ (sweepM zs D l).given = D.given ∧ (sweepM zs D l).notes = D.notes ∧ nleft (sweepM zs D l) ≤ nleft D ∧
    (nleft (sweepM zs D l) = nleft D → nxD zs (sweepM zs D l) = nxD zs D ∧ ∀ z ∈ l, ringM zs (nxD zs D) z = none)
  | [], D, g, gb, _ => ⟨g, gb, rfl, rfl, Int.le_refl _, fun _ => ⟨rfl, fun z h => by cases h⟩⟩
  | z :: l, D, g, gb, sub => by
    have st := step_to g gb (sub z List.mem_cons_self)
    rw [sweep_cons]
    obtain ⟨i1, i2, i3, i4, i5, i6⟩ := sweep_keeps l (stepZ zs D z) st.g st.gb fun y hy => sub y (List.mem_cons_of_mem _ hy)
    have l1 := st.le
    refine ⟨i1, i2, i3.trans st.given, i4.trans st.notes, by omega, fun e => ?_⟩
    obtain ⟨n1, n2⟩ := st.nx (by omega)
    obtain ⟨m1, m2⟩ := i6 (by omega)
    rw [n1] at m1 m2
    refine ⟨m1, fun y hy => ?_⟩
    rcases List.mem_cons.mp hy with rfl | hy
    · exact n2
    · exact m2 y hy
/-- how far cash has yet to go -/
theorem sweep_deep {zs : List Str} {k : Nat} : ∀ (l : List Str) (D : Md) (Vi : Str → Prop), Gs zs D → Gb D → (∀ y ∈ l, y ∈ zs) → (∀ y ∈ zs, ringM zs (nxD zs D) y = none) → nleft (sweepM zs D l) = nleft D →
    (∀ y ∈ zs, 0 < mostP (bkOf zs D) (zs.idxOf y) y → (trailM zs (nxD zs D) y).length ≤ k ∧ (Vi y → (trailM zs (nxD zs D) y).length + 1 ≤ k)) →
    ∀ y ∈ zs, 0 < mostP (bkOf zs (sweepM zs D l)) (zs.idxOf y) y → (trailM zs (nxD zs D) y).length ≤ k ∧ ((Vi y ∨ y ∈ l) → (trailM zs (nxD zs D) y).length + 1 ≤ k)
  | [], D, Vi, g, gb, _, _, _, inv => fun y hy hp => ⟨(inv y hy hp).1, fun h => (inv y hy hp).2 (h.resolve_right List.not_mem_nil)⟩
  | z :: l, D, Vi, g, gb, sub, nr, e, inv => by
    have hz := sub z List.mem_cons_self
    have st := step_to g gb hz
    rw [sweep_cons] at e ⊢
    have sub' : ∀ y ∈ l, y ∈ zs := fun y hy => sub y (List.mem_cons_of_mem _ hy)
    obtain ⟨_, _, _, _, i5, _⟩ := sweep_keeps l (stepZ zs D z) st.g st.gb sub'
    have l1 := st.le
    have e1 : nleft (stepZ zs D z) = nleft D := by omega
    obtain ⟨n1, _⟩ := st.nx e1
    obtain ⟨q1, q2⟩ := st.eq e1 nr
    have ih := sweep_deep (k := k) l (stepZ zs D z) (fun y => Vi y ∨ y = z) st.g st.gb sub' (by rw [n1]; exact nr) (by omega) (fun y hy hp => by
      rw [n1]
      by_cases h : y = z
      · subst h
        omega
      · rcases q2 y hy h hp with h1 | ⟨h1, h2⟩
        · obtain ⟨a1, a2⟩ := inv y hy h1
          exact ⟨a1, fun v => a2 (v.resolve_right h)⟩
        · have := (inv z hz h1).1
          have lon : (trailM zs (nxD zs D) y).length + 1 ≤ (trailM zs (nxD zs D) z).length := trail_longer g.walks.ld nr hz h2
          exact ⟨by omega, fun _ => by omega⟩)
    rw [n1] at ih
    intro y hy hp
    obtain ⟨a1, a2⟩ := ih y hy hp
    refine ⟨a1, fun h => a2 ?_⟩
    rcases h with h | h
    · exact .inl (.inl h)
    · rcases List.mem_cons.mp h with h | h
      · exact .inl (.inr h)
      · exact .inr h
/-- how many sweeps there are to go, at the most -/
def Sw (zs : List Str) (D : Md) (i : Int) : Prop := ∃ k : Nat, k ≤ zs.length ∧ (∀ y ∈ zs, 0 < mostP (bkOf zs D) (zs.idxOf y) y → (trailM zs (nxD zs D) y).length ≤ k) ∧ nleft D * ((zs.length : Int) + 1) + k ≤ i
theorem Sw.start {zs : List Str} {D : Md} (g : Gs zs D) : Sw zs D (nleft D * ((zs.length : Int) + 1) + zs.length) := ⟨zs.length, Nat.le_refl _, fun y hy _ => trail_12 g.walks.ld hy, Int.le_refl _⟩
theorem Sw.low {zs : List Str} {D : Md} {i : Int} (h : Sw zs D i) : 0 ≤ i := by
  obtain ⟨k, _, _, h3⟩ := h
  have := Int.mul_nonneg (nleft_low D) (show (0 : Int) ≤ (zs.length : Int) + 1 by omega)
  omega
theorem Sw.next {zs : List Str} {D : Md} {i : Int} (g : Gs zs D) (gb : Gb D) (ns : ¬ Settled zs D) (h : Sw zs D i) : Sw zs (sweepM zs D zs) (i - 1) := by
  obtain ⟨k, h1, h2, h3⟩ := h
  obtain ⟨s1, s2, s3, s4, s5, s6⟩ := sweep_keeps zs D g gb fun y hy => hy
  by_cases e : nleft (sweepM zs D zs) = nleft D
  · obtain ⟨n1, n2⟩ := s6 e
    have dp := sweep_deep (k := k) zs D (fun _ => False) g gb (fun y hy => hy) n2 e (fun y hy hp => ⟨h2 y hy hp, fun f => f.elim⟩)
    have k1 : 1 ≤ k := Decidable.byContradiction fun c => ns ⟨fun z hz => by
      have m0 := mostP_low g hz
      refine Decidable.byContradiction fun c2 => ?_
      have := h2 z hz (by omega)
      obtain ⟨tl, eT⟩ := (trail_ended g.walks.ld hz).first
      rw [eT, List.length_cons] at this
      omega, n2⟩
    refine ⟨k - 1, by omega, fun y hy hp => ?_, ?_⟩
    · have := (dp y hy hp).2 (.inr hy)
      rw [n1]
      omega
    · rw [e]
      omega
  · refine ⟨zs.length, Nat.le_refl _, fun y hy _ => trail_12 s1.walks.ld hy, ?_⟩
    have le : nleft (sweepM zs D zs) ≤ nleft D - 1 := by omega
    have := Int.mul_le_mul_of_nonneg_right le (show (0 : Int) ≤ (zs.length : Int) + 1 by omega)
    rw [Int.sub_mul, Int.one_mul] at this
    omega
end Rc

namespace Rc
open PySem PySem.Spec PyProof.Rows L2 RZ
theorem fallAll_step (zs : List Str) (D : Md) (l : List Str) (x : Str) (m : Int) : fallAll zs D (l ++ [x]) m = fellD (fallAll zs D l m) (zs.idxOf x) ((fallAll zs D l m).fallen.getD (zs.idxOf x) 0 + m) := by
  unfold fallAll
  rw [List.foldl_append]
  rfl
theorem sweep_snoc (zs : List Str) (D : Md) (l : List Str) (z : Str) : sweepM zs D (l ++ [z]) = stepZ zs (sweepM zs D l) z := by
  unfold sweepM
  rw [List.foldl_append]
  rfl
section
variable {P : Program} {w : World} {K : PySem.W.Frag} {mg : Str → Option Value} {base : Heap}
/-! ### _law_is_settled -/
abbrev sLSe : Stmt := topS 69
theorem scLSe : FnScope ["_law_model_here", "_law_who"] ["_law_model_here"] (defScope sLSe) := ⟨rfl, rfl, rfl, by decide +kernel, rfl, by decide +kernel, by decide +kernel⟩
def spLSe (K : PySem.W.Frag) : Sp := fun vs H Q _ => ∃ (a : MdA) (D : Md) (zs : List Str), vs = [.ref a.m] ∧ ModelAt K H zs a D ∧ Gs zs D ∧ (Settled zs D → ∀ H', Same H H' → Q (.bl true) H') ∧ (¬ Settled zs D → ∀ H', Same H H' → Q (.bl false) H')
theorem ok_lse {f f1 f2 : Addr} {fd fd1 fd2 : FuncData} (F : Fun K "_law_is_settled" "_law_is_settled" sLSe f fd) (MO : Has P w K mg base 3 "_law_most" ["_law_model_here", "_law_who"] (spLMo K) f1 fd1) (RG : Has P w K mg base 5 "_law_ring" ["_law_model_here", "_law_who"] (spLRg K) f2 fd2) : FnOk P w K mg base CX0 6 f fd ["_law_model_here"] (spLSe K) := by
  refine F.ok scLSe (fun vs H Q E h => ?_) (fun cdv Ar outer s H vs Q E hr h => ?_)
  · obtain ⟨_, _, _, rfl, _⟩ := h
    rfl
  · obtain ⟨a, D, zs, rfl, hM, g, qY, qN⟩ := h
    have hu := hu_of hr
    have hr3 := hr.mono (show 3 ≤ 5 by decide)
    refine ⟨_, pss_cons (ps_for PassesOwn.never rfl (pi_list (pe_dget hu (pv 0) pe_str (fun _ _ => rfl))) (pg_name (i := 1) scLSe.nd rfl (.inl rfl))
        (pss_one (ps_if (PW.pt (pw_or (pt_cmpR op_gt (pe_call MO.ok hr3 (by rfl) MO.g MO.kp MO.b .nil pass0 (pa_cons (pv 0) (pa_cons (pv 1) pa_nil))) pe_int (nomark _)) (pw_or1 (pt_cmpR op_notN (pe_call RG.ok hr (by rfl) RG.g RG.kp RG.b .nil pass0 (pa_cons (pv 0) (pa_cons (pv 1) pa_nil))) pe_non (nomark _))))) (pss_one (ps_ret pe_bl)) pss_nil)))
      (pss_one (ps_ret pe_bl)), ?_⟩
    have lenz : (zs.map V.str).length = zs.length := List.length_map ..
    refine ⟨.ref a.m, rfl, a.m, .ref a.lo, rfl, hM.g0, a.lo, rfl, ⟨_, .inl (.inl hM.ho)⟩, ?_⟩
    refine for_it (walk_list (K := K) (a := a.lo) (xs := zs.map V.str)) (fun i σ H' => ∃ y1, σ = [some (.ref a.m), y1] ∧ Same H H' ∧ ∀ z ∈ zs.take i, mostP (bkOf zs D) (zs.idxOf z) z = 0 ∧ ringM zs (nxD zs D) z = none)
      ⟨_, rfl, Same.refl _, fun z h => by cases h⟩ (fun i σ H' _ hP => ?_) (fun i x σ H1' H1 hi hP hY => ?_) (fun σ H1 hP => ?_)
    · obtain ⟨_, _, s1, _⟩ := hP
      exact .inl (.inl (s1 _ _ hM.ho))
    · obtain ⟨rfl, hx⟩ := hY
      obtain ⟨y1, rfl, s1, inv⟩ := hP
      rw [lenz] at hi
      have ex : x = .str zs[i] := by
        rw [List.getElem?_map, List.getElem?_eq_getElem hi] at hx
        exact (Option.some.inj hx).symm
      subst ex
      have hz : zs[i] ∈ zs := List.getElem_mem hi
      have tk := take_succ hi
      generalize zs[i] = z at hz tk
      refine ⟨.ref a.m, rfl, .str z, rfl, a, D, zs, z, rfl, model_same hM s1, g, hz, fun H2 s2 => ⟨_, _, rfl, rfl, _, rfl, ?_⟩⟩
      have m0 := mostP_low g hz
      have s12 := s1.trans s2
      by_cases hp : 0 < mostP (bkOf zs D) (zs.idxOf z) z
      · rw [show decide (0 < mostP (bkOf zs D) (zs.idxOf z) z) = true from decide_eq_true hp]
        exact iteT (iteT (qN (fun st => by have := st.pay z hz; omega) H2 s12))
      · rw [show decide (0 < mostP (bkOf zs D) (zs.idxOf z) z) = false from decide_eq_false hp]
        refine iteF ⟨.ref a.m, rfl, .str z, rfl, a, D, zs, z, rfl, model_same hM s12, g, hz, fun v H3 s3 rv => ⟨rfl, _, rfl, ?_⟩⟩
        cases hR : ringM zs (nxD zs D) z with
        | none =>
          rw [hR] at rv
          have ev : v = .non := rv
          subst ev
          rw [decide_eq_true rfl]
          refine iteF ⟨_, rfl, s12.trans s3, fun y hy => ?_⟩
          rw [tk] at hy
          rcases List.mem_append.mp hy with hy | hy
          · exact inv y hy
          · rw [List.mem_singleton.mp hy]
            exact ⟨by omega, hR⟩
        | some r =>
          rw [hR] at rv
          obtain ⟨ra, rfl, _, _⟩ := rv
          rw [decide_eq_false (fun c => by cases c)]
          exact iteT (qN (fun st => by rw [st.ring z hz] at hR; cases hR) H3 (s12.trans s3))
    · obtain ⟨y1, rfl, s1, inv⟩ := hP
      rw [lenz, List.take_length] at inv
      exact qY ⟨fun z hz => (inv z hz).1, fun z hz => (inv z hz).2⟩ H1 s1
/-! ### _law_sweep -/
abbrev sLSw : Stmt := topS 70
abbrev nLSw : List Str := ["_law_model_here", "_law_who", "_law_ring_here", "_law_least_here", "_law_one"]
theorem scLSw : FnScope nLSw ["_law_model_here"] (defScope sLSw) := ⟨rfl, rfl, rfl, by decide +kernel, rfl, by decide +kernel, by decide +kernel⟩
def spLSw (K : PySem.W.Frag) : Sp := fun vs H Q _ => ∃ (a : MdA) (D : Md) (zs : List Str), vs = [.ref a.m] ∧ ModelAt K H zs a D ∧ Gs zs D ∧ Gb D ∧ ∀ H', But a.df H H' → ModelAt K H' zs a (sweepM zs D zs) → Q .non H'
theorem ok_lsw {f f1 f2 f3 f4 : Addr} {fd fd1 fd2 fd3 fd4 : FuncData} (F : Fun K "_law_sweep" "_law_sweep" sLSw f fd) (MO : Has P w K mg base 3 "_law_most" ["_law_model_here", "_law_who"] (spLMo K) f1 fd1) (RG : Has P w K mg base 5 "_law_ring" ["_law_model_here", "_law_who"] (spLRg K) f2 fd2)
    (FL : Has P w K mg base 1 "_law_fall" ["_law_model_here", "_law_who", "_law_amount_here"] (spLFl K) f3 fd3) (LS : Has P w K mg base 3 "_law_least" ["_law_model_here", "_law_ring_here"] (spLLs K) f4 fd4) : FnOk P w K mg base CX0 6 f fd ["_law_model_here"] (spLSw K) := by
  refine F.ok scLSw (fun vs H Q E h => ?_) (fun cdv Ar outer s H vs Q E hr h => ?_)
  · obtain ⟨_, _, _, rfl, _⟩ := h
    rfl
  · obtain ⟨a, D, zs, rfl, hM, g, gb, q⟩ := h
    have hu := hu_of hr
    have hr1 := hr.mono (show 1 ≤ 5 by decide)
    have hr3 := hr.mono (show 3 ≤ 5 by decide)
    refine ⟨_, pss_one (ps_for PassesOwn.never rfl (pi_list (pe_dget hu (pv 0) pe_str (fun _ _ => rfl))) (pg_name (i := 1) scLSw.nd rfl (.inl rfl))
        (pss_cons (ps_set (i := 2) scLSw.nd rfl (.inl rfl) (pe_call RG.ok hr (by rfl) RG.g RG.kp RG.b .nil pass0 (pa_cons (pv 0) (pa_cons (pv 1) pa_nil))))
        (pss_one (ps_if (pt_cmpR op_isN (pv 2) pe_non (nomark _)) (pss_one (ps_expr (pe_call FL.ok hr1 (by rfl) FL.g FL.kp FL.b .nil pass0 (pa_cons (pv 0) (pa_cons (pv 1) (pa_cons (pe_call MO.ok hr3 (by rfl) MO.g MO.kp MO.b .nil pass0 (pa_cons (pv 0) (pa_cons (pv 1) pa_nil))) pa_nil))))))
          (pss_cons (ps_set (i := 3) scLSw.nd rfl (.inl rfl) (pe_call LS.ok hr3 (by rfl) LS.g LS.kp LS.b .nil pass0 (pa_cons (pv 0) (pa_cons (pv 2) pa_nil))))
          (pss_one (ps_for PassesOwn.never rfl (pi_list (pv 2)) (pg_name (i := 4) scLSw.nd rfl (.inl rfl))
            (pss_one (ps_expr (pe_call FL.ok hr1 (by rfl) FL.g FL.kp FL.b .nil pass0 (pa_cons (pv 0) (pa_cons (pv 4) (pa_cons (pv 3) pa_nil))))))))))))), ?_⟩
    have lenz : (zs.map V.str).length = zs.length := List.length_map ..
    have nz := g.nz
    refine ⟨.ref a.m, rfl, a.m, .ref a.lo, rfl, hM.g0, a.lo, rfl, ⟨_, .inl (.inl hM.ho)⟩, ?_⟩
    refine for_it (walk_list (K := K) (a := a.lo) (xs := zs.map V.str)) (fun i σ H' => ∃ y1 y2 y3 y4, σ = [some (.ref a.m), y1, y2, y3, y4] ∧ But a.df H H' ∧ ModelAt K H' zs a (sweepM zs D (zs.take i)))
      ⟨_, _, _, _, rfl, same_but (Same.refl _), hM⟩ (fun i σ H' _ hP => ?_) (fun i x σ H1' H1 hi hP hY => ?_) (fun σ H1 hP => ?_)
    · obtain ⟨_, _, _, _, _, _, hM1⟩ := hP
      exact .inl (.inl hM1.ho)
    · obtain ⟨rfl, hx⟩ := hY
      obtain ⟨y1, y2, y3, y4, rfl, b1, hM1⟩ := hP
      rw [lenz] at hi
      have ex : x = .str zs[i] := by
        rw [List.getElem?_map, List.getElem?_eq_getElem hi] at hx
        exact (Option.some.inj hx).symm
      subst ex
      have hz : zs[i] ∈ zs := List.getElem_mem hi
      have tk := take_succ hi
      generalize zs[i] = z at hz tk
      obtain ⟨g1, gb1, _⟩ := sweep_keeps (zs.take i) D g gb fun y hy => List.mem_of_mem_take hy
      rw [tk, sweep_snoc]
      generalize sweepM zs D (zs.take i) = D1 at hM1 g1 gb1
      refine ⟨.ref a.m, rfl, .str z, rfl, a, D1, zs, z, rfl, hM1, g1, hz, fun v H2 s2 rv => ⟨v, rfl, rfl, _, rfl, ?_⟩⟩
      have hM2 := model_same hM1 s2
      have b2 := b1.trans (same_but s2)
      cases hR : ringM zs (nxD zs D1) z with
      | none =>
        rw [hR] at rv
        have ev : v = .non := rv
        subst ev
        rw [decide_eq_true rfl]
        refine iteT ⟨.ref a.m, rfl, .str z, rfl, .ref a.m, rfl, .str z, rfl, a, D1, zs, z, rfl, hM2, g1, hz, fun H3 s3 => ⟨a, D1, zs, z, _, rfl, model_same hM2 s3, nz, hz, fun H4 b4 hM4 => ?_⟩⟩
        refine ⟨_, _, _, _, rfl, b2.trans ((same_but s3).trans b4), ?_⟩
        unfold stepZ
        rw [hR]
        exact hM4
      | some r =>
        rw [hR] at rv
        obtain ⟨ra, rfl, nra, hra⟩ := rv
        rw [decide_eq_false (fun c => by cases c)]
        obtain ⟨rne, rl12, rdue⟩ := ring_least g1.ok g1.closed hz hR
        have rsub : ∀ y ∈ r, y ∈ zs := fun y hy => (rdue y hy).1
        refine iteF ⟨.ref a.m, rfl, .ref ra, rfl, a, D1, zs, ra, r, rfl, hM2, g1, hra, rne, rl12, rdue, fun H3 s3 => ?_⟩
        have eS : stepZ zs D1 z = fallAll zs D1 r (leastI (r.map (amtAt zs (duesM (bkOf zs D1))))) := by
          unfold stepZ
          rw [hR]
        rw [eS]
        generalize leastI (r.map (amtAt zs (duesM (bkOf zs D1)))) = m
        have hra3 := s3 _ _ hra
        have radf : ra ≠ a.df := fun z => by
          rw [z, hM1.hf] at nra
          cases nra
        refine ⟨.ref ra, rfl, ra, rfl, ⟨_, .inl (.inl hra3)⟩, ?_⟩
        have hM3 := model_same hM2 s3
        refine for_it (walk_list (K := K) (a := ra) (xs := r.map V.str)) (fun j σ H' => ∃ y4, σ = [some (.ref a.m), some (.str z), some (.ref ra), some (.int m), y4] ∧ But a.df H3 H' ∧ ModelAt K H' zs a (fallAll zs D1 (r.take j) m))
          ⟨_, rfl, same_but (Same.refl _), hM3⟩ (fun j σ H' _ hP => ?_) (fun j x σ H4' H4 hj hP hY => ?_) (fun σ H4 hP => ?_)
        · obtain ⟨_, _, b4, _⟩ := hP
          exact .inl (.inl (b4 _ _ radf hra3))
        · obtain ⟨rfl, hx⟩ := hY
          obtain ⟨y4, rfl, b4, hM4⟩ := hP
          rw [List.length_map] at hj
          have ex : x = .str r[j] := by
            rw [List.getElem?_map, List.getElem?_eq_getElem hj] at hx
            exact (Option.some.inj hx).symm
          subst ex
          refine ⟨.ref a.m, rfl, _, rfl, .int m, rfl, a, _, zs, r[j], m, rfl, hM4, nz, rsub _ (List.getElem_mem hj), fun H5 b5 hM5 => ⟨_, rfl, b4.trans b5, ?_⟩⟩
          rw [take_succ hj, fallAll_step]
          exact hM5
        · obtain ⟨y4, rfl, b4, hM4⟩ := hP
          rw [List.length_map, List.take_length] at hM4
          exact ⟨_, _, _, _, rfl, b2.trans ((same_but s3).trans b4), hM4⟩
    · obtain ⟨y1, y2, y3, y4, rfl, b1, hM1⟩ := hP
      rw [lenz, List.take_length] at hM1
      exact q H1 b1 hM1
/-! ### _law_settle -/
abbrev sLSt : Stmt := topS 71
abbrev nLSt : List Str := ["_law_model_here", "_law_many", "_law_who", "_law_turn"]
theorem scLSt : FnScope nLSt ["_law_model_here"] (defScope sLSt) := ⟨rfl, rfl, rfl, by decide +kernel, rfl, by decide +kernel, by decide +kernel⟩
def spLSt (K : PySem.W.Frag) : Sp := fun vs H Q _ => ∃ (a : MdA) (D : Md) (zs : List Str), vs = [.ref a.m] ∧ ModelAt K H zs a D ∧ Gs zs D ∧ Gb D ∧ ∀ E H', But a.df H H' → ModelAt K H' zs a E → Gs zs E → Gb E → E.given = D.given → E.notes = D.notes → Settled zs E → Q .non H'
theorem nleft_many {D : Md} : nleft D ≤ ((D.notes.map List.length).sum : Nat) := by
  unfold nleft
  have : ∀ (L : List (List (Str × Int))) (fs : List Int), ((L.zip fs).map fun p => ((leftN p.1 p.2).length : Int)).sum ≤ ((L.map List.length).sum : Nat) := fun L => by
    induction L with
    | nil => intro fs; simp
    | cons l L ih =>
      intro fs
      cases fs with
      | nil => simp; omega
      | cons f fs =>
        have := ih fs
        have := leftN_len l f
        simp only [List.zip_cons_cons, List.map_cons, List.sum_cons]
        omega
  exact this D.notes D.fallen
theorem ok_lst {f f1 f2 : Addr} {fd fd1 fd2 : FuncData} (F : Fun K "_law_settle" "_law_settle" sLSt f fd) (B : Blt mg) (B2 : Blt2 mg) (B3 : Blt3 mg) (IS : Has P w K mg base 6 "_law_is_settled" ["_law_model_here"] (spLSe K) f1 fd1) (SW : Has P w K mg base 6 "_law_sweep" ["_law_model_here"] (spLSw K) f2 fd2) : FnOk P w K mg base CX0 7 f fd ["_law_model_here"] (spLSt K) := by
  refine F.ok scLSt (fun vs H Q E h => ?_) (fun cdv Ar outer s H vs Q E hr h => ?_)
  · obtain ⟨_, _, _, rfl, _⟩ := h
    rfl
  · obtain ⟨a, D, zs, rfl, hM, g, gb, q⟩ := h
    have hu := hu_of hr
    refine ⟨_, pss_cons (ps_set (i := 1) scLSt.nd rfl (.inl rfl) (pe_callB (cr_sum rfl) (by rfl) B3.sum (by decide +kernel) (pa_cons
        (pe_lc (own := [("_law_who", 2)]) (g := gName 2) (tt := tYes) rfl scLSt.nd (pi_list (pe_dget hu (pv 0) pe_str (fun _ _ => rfl))) (blkOk_by (N := nLSt) (sc := defScope sLSt) (own := [("_law_who", 2)]) (by decide +kernel))
          (fun _ _ _ _ _ => pg_name (i := 2) scLSt.nd rfl (.inl rfl) (hf := .inr rfl)) (fun _ _ _ _ _ => pts_nil)
          (fun _ _ _ _ _ => pe_callB (call_lenS (K := K) rfl) (by rfl) B.len PySem.boot_len (pa_cons (pe_dget hu (pe_dget hu (pv 0) pe_str (fun _ _ => rfl)) (pv 2) (fun _ _ => rfl)) pa_nil))) pa_nil)))
      (pss_one (ps_for PassesOwn.never rfl (pi_range1 (by rfl) B2.range (pa_cons (pe_op op_mul (pe_op op_add (pv 1) pe_int) (pe_op op_add (pe_callB call_len_seq (by rfl) B.len PySem.boot_len (pa_cons (pe_dget hu (pv 0) pe_str (fun _ _ => rfl)) pa_nil)) pe_int)) pa_nil)) (pg_name (i := 3) scLSt.nd rfl (.inl rfl))
        (pss_cons (ps_if (pt_val (pe_call IS.ok hr (by rfl) IS.g IS.kp IS.b .nil pass0 (pa_cons (pv 0) pa_nil))) (pss_one ps_retN) pss_nil)
        (pss_one (ps_expr (pe_call SW.ok hr (by rfl) SW.g SW.kp SW.b .nil pass0 (pa_cons (pv 0) pa_nil))))))), ?_⟩
    have lenz : (zs.map V.str).length = zs.length := List.length_map ..
    have n12 := g.nz.n1
    have nd := g.nz.nd
    refine ⟨.ref a.m, rfl, a.m, .ref a.lo, rfl, hM.g0, a.lo, rfl, ⟨_, .inl (.inl hM.ho)⟩, fun D0 nD0 => ?_⟩
    refine lc_it (walk_list (K := K) (a := a.lo) (xs := zs.map V.str)) (fun i H' => Same H H' ∧ H' D0 = some (.lst (((D.notes.take i).map fun l => (l.length : Int)).map V.int))) ⟨same_upd nD0, upd_same⟩ (fun i H' _ hP => .inl (.inl (hP.1 _ _ hM.ho)))
      (fun i x H2' H2 hi hP hY => ?_) (fun H2 hP => ?_)
    · obtain ⟨rfl, hx⟩ := hY
      rw [lenz] at hi
      obtain ⟨sm, hD⟩ := hP
      have ex : x = .str zs[i] := by
        rw [List.getElem?_map, List.getElem?_eq_getElem hi] at hx
        exact (Option.some.inj hx).symm
      subst ex
      have hMm := model_same hM sm
      obtain ⟨gv, f', l, r, xs, eg, ef, el, er, hr0, hd0⟩ := hMm.at_ (List.getElem?_eq_getElem hi)
      have hin : i < D.notes.length := by rw [g.ln]; exact hi
      refine ⟨rfl, .ref a.m, rfl, a.m, .ref a.dn, rfl, hMm.g3, _, rfl, a.dn, _, rfl, hMm.gn (List.getElem?_eq_getElem hi) er, r, _, rfl, .inl (.inl (.inl hr0)), _, hD, ?_, fun b' o eb => ?_, ?_⟩
      · rw [List.length_map, List.length_map, List.length_take]
        exact small1000 (by omega)
      · rw [upd_ne (ne_of_none eb nD0)]
        exact sm b' o eb
      · rw [upd_same, take_succ hin, List.map_append, List.map_append]
        have e1 : D.notes[i] = l := by
          rw [List.getElem?_eq_getElem hin] at el
          exact Option.some.inj el
        have e2 : xs.length = l.length := by
          rw [hd0.len]
          unfold notesD
          rw [List.length_map]
        rw [e1, e2]
        rfl
    · obtain ⟨s2, hD2⟩ := hP
      rw [lenz, ← g.ln, List.take_length] at hD2
      refine ⟨D0, _, rfl, .inl (.inl hD2), ?_⟩
      have my := g.my
      have esum : (D.notes.map fun l => (l.length : Int)).sum = ((D.notes.map List.length).sum : Nat) := by
        generalize D.notes = L
        induction L with
        | nil => rfl
        | cons l L ih =>
          rw [List.map_cons, List.sum_cons, ih, List.map_cons, List.sum_cons, Int.natCast_add]
      have nm := nleft_many (D := D)
      rw [esum]
      generalize (D.notes.map List.length).sum = n at my nm
      have hM2 := model_same hM s2
      refine ⟨_, rfl, _, _, rfl, rfl, .ref a.m, rfl, a.m, .ref a.lo, rfl, hM2.g0, a.lo, _, rfl, .inl (.inl (.inl hM2.ho)), _, _, rfl, rfl, _, _, rfl, rfl, .inl ⟨by have : (0 : Int) ≤ n := Int.natCast_nonneg _; omega, by omega⟩, ?_⟩
      have hN : (n + 1) * (zs.length + 1) ≤ 61 * 13 := Nat.mul_le_mul (by omega) (by omega)
      have eN : ((n : Int) + 1) * (((zs.map V.str).length : Int) + 1) = (((n + 1) * (zs.length + 1) : Nat) : Int) := by
        rw [lenz, Int.natCast_mul, Int.natCast_add, Int.natCast_add]
        rfl
      refine ⟨(((n + 1) * (zs.length + 1) : Nat) : Int), congrArg (fun z => [V.int z]) eN, by omega, by omega, ?_⟩
      have bound : nleft D * ((zs.length : Int) + 1) + zs.length ≤ (((n + 1) * (zs.length + 1) : Nat) : Int) - 1 := by
        have h := Int.mul_le_mul_of_nonneg_right nm (show (0 : Int) ≤ (zs.length : Int) + 1 by omega)
        rw [Int.natCast_mul, Int.natCast_add, Int.natCast_add, Int.add_mul]
        have e1 : ((1 : Nat) : Int) * ((zs.length : Int) + ((1 : Nat) : Int)) = (zs.length : Int) + 1 := by simp
        have e2 : ((n : Nat) : Int) * ((zs.length : Int) + ((1 : Nat) : Int)) = (n : Int) * ((zs.length : Int) + 1) := by simp
        rw [e1, e2]
        omega
      clear eN
      generalize (n + 1) * (zs.length + 1) = N at bound hN
      refine for_it walk_range (fun i σ H' => ∃ y3 E, σ = [some (.ref a.m), some (.int n), none, y3] ∧ But a.df H H' ∧ ModelAt K H' zs a E ∧ Gs zs E ∧ Gb E ∧ E.given = D.given ∧ E.notes = D.notes ∧ ∃ k, Sw zs E k ∧ k + i < N)
        ⟨_, D, rfl, same_but s2, hM2, g, gb, rfl, rfl, _, Sw.start g, by omega⟩ (fun _ _ _ _ _ => trivial) (fun i x σ H3' H3 hi hP hY => ?_) (fun σ H3 hP => ?_)
      · obtain ⟨rfl, rfl⟩ := hY
        obtain ⟨y3, E, rfl, b3, hM3, gE, gbE, hg, hn, k, sw, hk⟩ := hP
        refine ⟨.ref a.m, rfl, a, E, zs, rfl, hM3, gE, fun st H4 s4 => ⟨_, rfl, iteT (q E H4 (b3.trans (same_but s4)) (model_same hM3 s4) gE gbE hg hn st)⟩, fun ns H4 s4 => ⟨_, rfl, iteF ?_⟩⟩
        obtain ⟨k1, k2, k3, k4, _⟩ := sweep_keeps zs E gE gbE fun y hy => hy
        refine ⟨.ref a.m, rfl, a, E, zs, rfl, model_same hM3 s4, gE, gbE, fun H5 b5 hM5 => ⟨_, _, rfl, b3.trans ((same_but s4).trans b5), hM5, k1, k2, k3.trans hg, k4.trans hn, k - 1, sw.next gE gbE ns, by omega⟩⟩
      · obtain ⟨y3, E, rfl, b3, hM3, gE, gbE, hg, hn, k, sw, hk⟩ := hP
        have := sw.low
        omega
end
end Rc

namespace Rc
open PySem PySem.Spec PyProof.Rows L2 RZ LamX
abbrev inCourse (i : Nat) : Stmt := inClass (topS 44) i
/-! ### a course -/
structure CoAd where
  h : Addr
  p : Addr
  s : Addr
  t : Addr
def cfV (a b c d : V) : List (Str × V) := [("heaps", a), ("purses", b), ("sunk", c), ("steps", d)]
theorem cf_h {a b c d : V} : (cfV a b c d).lookup ("heaps" : Str) = some a := lk_hit
theorem cf_p {a b c d : V} : (cfV a b c d).lookup ("purses" : Str) = some b := (lk_miss (by decide +kernel)).trans lk_hit
theorem cf_s {a b c d : V} : (cfV a b c d).lookup ("sunk" : Str) = some c := (lk_miss (by decide +kernel)).trans ((lk_miss (by decide +kernel)).trans lk_hit)
theorem cf_t {a b c d : V} : (cfV a b c d).lookup ("steps" : Str) = some d := (lk_miss (by decide +kernel)).trans ((lk_miss (by decide +kernel)).trans ((lk_miss (by decide +kernel)).trans lk_hit))
def NoFC (m : Str) : Prop := (m == "heaps") = false ∧ (m == "purses") = false ∧ (m == "sunk") = false ∧ (m == "steps") = false
theorem NoFC.mk' {m : Str} (h : ((m == "heaps") || (m == "purses") || (m == "sunk") || (m == "steps")) = false) : NoFC m := by
  simp only [Bool.or_eq_false_iff] at h
  exact ⟨h.1.1.1, h.1.1.2, h.1.2, h.2⟩
theorem cf_no {a b c d : V} {m : Str} (h : NoFC m) : (cfV a b c d).lookup m = none := (lk_miss h.1).trans ((lk_miss h.2.1).trans ((lk_miss h.2.2.1).trans ((lk_miss h.2.2.2).trans rfl)))
structure ClsC (K : PySem.W.Frag) (C : Addr) : Prop where
  cl : Cls K C
  n1 : NoAttr K C "heaps"
  n2 : NoAttr K C "purses"
  n3 : NoAttr K C "sunk"
  n4 : NoAttr K C "steps"
def cf (a : CoAd) : List (Str × V) := cfV (.ref a.h) (.ref a.p) (.ref a.s) (.ref a.t)
def cashY (zs : List Str) (D : Md) (y : Str) : Int := cashM (bkOf zs D) (zs.idxOf y) y
def sunkY (zs : List Str) (F : List Int) (D : Md) (y : Str) : Int := D.fallen.getD (zs.idxOf y) 0 - F.getD (zs.idxOf y) 0
structure CourseAt (K : PySem.W.Frag) (C : Addr) (H : Hp) (x : Addr) (a : CoAd) (zs : List Str) (F : List Int) (D : Md) (n : Nat) : Prop where
  hx : ∃ dx, H x = some (.ins C dx (cf a))
  hh : ∃ hs : List Addr, H a.h = some (.dK (dct zs (hs.map V.ref))) ∧ hs.length = zs.length ∧
    ∀ (i : Nat) (q : Addr) (l : List (Str × Int)) (f : Int), hs[i]? = some q → D.notes[i]? = some l → D.fallen[i]? = some f → q ≠ a.t ∧ ∃ xs, H q = some (.lst xs) ∧ DtAll K H xs (notesD (leftN l f))
  hp : H a.p = some (.dK (dct zs ((zs.map (cashY zs D)).map V.int)))
  hs : H a.s = some (.dK (dct zs ((zs.map (sunkY zs F D)).map V.int)))
  ht : ∃ xs, H a.t = some (.lst xs) ∧ xs.length ≤ n
  d1 : a.h ≠ a.p
  d2 : a.h ≠ a.s
  d3 : a.p ≠ a.s
  ln : D.notes.length = zs.length
  lf : D.fallen.length = zs.length
/-- all but what a course changes -/
def ButC (a : CoAd) (H H' : Hp) : Prop := ∀ c o, c ≠ a.h → c ≠ a.p → c ≠ a.s → c ≠ a.t → H c = some o → H' c = some o
theorem ButC.trans {a : CoAd} {H H1 H2 : Hp} (x : ButC a H H1) (y : ButC a H1 H2) : ButC a H H2 := fun c o n1 n2 n3 n4 e => y c o n1 n2 n3 n4 (x c o n1 n2 n3 n4 e)
theorem ButC.of {a : CoAd} {H H' : Hp} (s : Same H H') : ButC a H H' := fun c o _ _ _ _ e => s c o e
section
variable {K : PySem.W.Frag} {C : Addr} {H : Hp} {x : Addr} {a : CoAd} {zs : List Str} {F : List Int} {D : Md} {n : Nat}
theorem CourseAt.more {k : Nat} (h : CourseAt K C H x a zs F D n) (e : n ≤ k) : CourseAt K C H x a zs F D k := by
  obtain ⟨xs, h1, h2⟩ := h.ht
  exact ⟨h.hx, h.hh, h.hp, h.hs, ⟨xs, h1, Nat.le_trans h2 e⟩, h.d1, h.d2, h.d3, h.ln, h.lf⟩
theorem CourseAt.same {H' : Hp} (h : CourseAt K C H x a zs F D n) (s : ExtN H H') : CourseAt K C H' x a zs F D n := by
  have k : ∀ {c : Addr} {o : HO}, H c = some o → (∀ ps, o ≠ .tbl ps) → H' c = some o := fun {c o} e n => s c o e n
  have kt : KT H H' := fun c o e t => s c o e fun ps z => by rw [z] at t; exact t
  obtain ⟨dx, hx⟩ := h.hx
  obtain ⟨hs, e1, e2, e3⟩ := h.hh
  obtain ⟨xs, t1, t2⟩ := h.ht
  refine ⟨⟨dx, k hx (by intro ps z; cases z)⟩, ⟨hs, k e1 (by intro ps z; cases z), e2, fun i q l f a1 a2 a3 => ?_⟩, k h.hp (by intro ps z; cases z), k h.hs (by intro ps z; cases z), ⟨xs, k t1 (by intro ps z; cases z), t2⟩, h.d1, h.d2, h.d3, h.ln, h.lf⟩
  obtain ⟨nq, ys, y1, y2⟩ := e3 i q l f a1 a2 a3
  exact ⟨nq, ys, k y1 (by intro ps z; cases z), DtAll.keepT kt _ (tup_notes _) y2⟩
/-- what a course changes is no tuple and no instance -/
theorem CourseAt.foot (h : CourseAt K C H x a zs F D n) {c : Addr} {o : HO} (e : H c = some o) (hl : ∀ ys, o ≠ .lst ys) (hd : ∀ ks, o ≠ .dK ks) : c ≠ a.h ∧ c ≠ a.p ∧ c ≠ a.s ∧ c ≠ a.t := by
  obtain ⟨hs, e1, e2, e3⟩ := h.hh
  obtain ⟨xs, t1, t2⟩ := h.ht
  refine ⟨fun z => ?_, fun z => ?_, fun z => ?_, fun z => ?_⟩
  · rw [z, e1] at e
    exact hd _ (Option.some.inj e).symm
  · rw [z, h.hp] at e
    exact hd _ (Option.some.inj e).symm
  · rw [z, h.hs] at e
    exact hd _ (Option.some.inj e).symm
  · rw [z, t1] at e
    exact hl _ (Option.some.inj e).symm
theorem CourseAt.list (h : CourseAt K C H x a zs F D n) {c : Addr} {ys : List V} (e : H c = some (.lst ys)) : c ≠ a.h ∧ c ≠ a.p ∧ c ≠ a.s := by
  obtain ⟨hs, e1, e2, e3⟩ := h.hh
  refine ⟨fun z => ?_, fun z => ?_, fun z => ?_⟩
  · rw [z, e1] at e
    cases e
  · rw [z, h.hp] at e
    cases e
  · rw [z, h.hs] at e
    cases e
theorem CourseAt.fresh (h : CourseAt K C H x a zs F D n) {c : Addr} (e : H c = none) : c ≠ a.h ∧ c ≠ a.p ∧ c ≠ a.s ∧ c ≠ a.t := by
  obtain ⟨hs, e1, e2, e3⟩ := h.hh
  obtain ⟨xs, t1, t2⟩ := h.ht
  exact ⟨(ne_of_none e1 e).symm, (ne_of_none h.hp e).symm, (ne_of_none h.hs e).symm, (ne_of_none t1 e).symm⟩
theorem ButC.kt {H' : Hp} (b : ButC a H H') (h : CourseAt K C H x a zs F D n) : KT H H' := fun c o e t => by
  obtain ⟨n1, n2, n3, n4⟩ := h.foot e (fun ys z => by rw [z] at t; exact t) (fun ys z => by rw [z] at t; exact t)
  exact b c o n1 n2 n3 n4 e
end
theorem map_set_idx {zs : List Str} {φ ψ : Str → Int} {j : Nat} {z : Str} {v : Int} (nd : zs.Nodup) (ej : zs[j]? = some z) (h1 : ψ z = v) (h2 : ∀ y ∈ zs, y ≠ z → ψ y = φ y) : ((zs.map φ).map V.int).set j (.int v) = (zs.map ψ).map V.int := by
  rw [List.map_map, List.map_map]
  obtain ⟨hj, ez⟩ := List.getElem?_eq_some_iff.mp ej
  refine List.ext_getElem? fun i => ?_
  by_cases h : i = j
  · subst h
    rw [List.getElem?_set_self (by rw [List.length_map]; exact hj), map_get ej]
    show some (V.int v) = some (V.int (ψ z))
    rw [h1]
  · rw [List.getElem?_set_ne (fun c => h c.symm)]
    by_cases hi : i < zs.length
    · rw [map_get (List.getElem?_eq_getElem hi), map_get (List.getElem?_eq_getElem hi)]
      show some (V.int (φ zs[i])) = some (V.int (ψ zs[i]))
      rw [h2 _ (List.getElem_mem hi) fun c => h ((List.getElem_inj nd).mp (c.trans ez.symm))]
    · rw [List.getElem?_eq_none (by rw [List.length_map]; omega), List.getElem?_eq_none (by rw [List.length_map]; omega)]
section
variable {P : Program} {w : World} {K : PySem.W.Frag} {mg : Str → Option Value} {base : Heap}
/-! ### sink -/
abbrev sSink : Stmt := inCourse 2
abbrev nSink : List Str := ["self", "who", "amount", "to", "left", "rest"]
theorem scSink : FnScope nSink ["self", "who", "amount"] (defScope sSink) := ⟨rfl, rfl, rfl, by decide +kernel, rfl, by decide +kernel, by decide +kernel⟩
def spSink (K : PySem.W.Frag) (C : Addr) : Sp := fun vs H Q _ => ∃ (x : Addr) (a : CoAd) (zs : List Str) (F : List Int) (D : Md) (n j : Nat) (z t : Str) (m f b : Int) (l r : List (Str × Int)), vs = [.ref x, .str z, .int m] ∧ CourseAt K C H x a zs F D n ∧ zs.Nodup ∧ zs.length ≤ 12 ∧ zs[j]? = some z ∧
  D.notes[j]? = some l ∧ D.fallen[j]? = some f ∧ l.length ≤ 100 ∧ (∀ n ∈ l, 1 ≤ n.2) ∧ 0 ≤ f ∧ leftN l f = (t, b) :: r ∧ 0 ≤ m ∧ m ≤ b ∧ t ∈ zs ∧ ∀ H', ButC a H H' → CourseAt K C H' x a zs F (fellD D j (f + m)) n → Q .non H'
theorem ok_sink {f : Addr} {fd : FuncData} {C : Addr} (Fn : Fun K "sink" "Course.sink" sSink f fd) (T : ClsC K C) : FnOk P w K mg base CX0 1 f fd ["self", "who", "amount"] (spSink K C) := by
  refine Fn.ok scSink (fun vs H Q E h => ?_) (fun cdv A outer s H vs Q E hr h => ?_)
  · obtain ⟨_, _, _, _, _, _, _, _, _, _, _, _, _, _, rfl, _⟩ := h
    rfl
  · obtain ⟨x, a, zs, F, D, n, j, z, t, m, f, b, l, r, rfl, co, nd, l12, ej, el, ef, ll, hn, f0, eL, m0, mb, ht, q⟩ := h
    have hu := hu_of hr
    refine ⟨_, pss_cons (ps_asg (pe_ix ix_list (pe_dget hu (pe_fld (pv 0) rfl) (pv 1) (fun _ _ => rfl)) pe_int (fun _ _ => rfl)) (pg_tup rfl (pgs_cons (pg_name (i := 3) scSink.nd rfl (.inl rfl)) (pgs_cons (pg_name (i := 4) scSink.nd rfl (.inl rfl)) pgs_nil))))
      (C8.pss_cut (ps_set (i := 5) scSink.nd rfl (.inl rfl) (pe_ifExp (pt_cmpR op_lt (pv 2) (pv 4) (nomark _)) (pe_lst (pa_cons (pe_tup (pa_cons (pv 3) (pa_cons (pe_op op_sub (pv 4) (pv 2)) pa_nil))) pa_nil)) (pe_lst pa_nil)))
      (pss_cons (ps_dput hu (pe_fld (pv 0) rfl) (pv 1) (pe_op op_cat (pv 5) (pe_slice sl_list (pe_dget hu (pe_fld (pv 0) rfl) (pv 1) (fun _ _ => rfl)) (po_some pe_int) po_none)) rfl)
      (pss_cons (ps_daug hu (pe_fld (pv 0) rfl) (pv 1) (pv 2) in_add (fun _ _ _ => rfl))
      (pss_cons (ps_daug hu (pe_fld (pv 0) rfl) (pv 1) (pv 2) in_sub (fun _ _ _ => rfl))
      (pss_one (ps_daug hu (pe_fld (pv 0) rfl) (pv 3) (pv 2) in_add (fun _ _ _ => rfl))))))), ?_⟩
    obtain ⟨dx, hx⟩ := co.hx
    obtain ⟨hs, hh, lh, hrow⟩ := co.hh
    obtain ⟨hj, ezj⟩ := List.getElem?_eq_some_iff.mp ej
    have hjh : j < hs.length := by omega
    have ejh := List.getElem?_eq_getElem hjh
    obtain ⟨nqt, xs, hq, dq⟩ := hrow j _ l f ejh el ef
    generalize hs[j] = qa at ejh nqt hq
    rw [eL] at dq
    cases dq with
    | cons dn dr =>
    rename_i x0 xr
    obtain ⟨na, rfl, qn⟩ := note_inv dn
    have g0 : DGet H a.h (.str z) (some (.ref qa)) := dget_rd (.inl hh) nd ej (map_get ejh)
    refine ⟨.ref x, rfl, x, C, dx, _, _, rfl, hx, T.cl, T.n1, cf_h, .str z, rfl, a.h, .ref qa, rfl, g0, qa, _, 0, .ref na, rfl, rfl, .inl (.inl hq), atI_nat (j := 0) rfl, na, _, rfl, qn, rfl, _, _, rfl, _, _, rfl, rfl, ?_⟩
    refine ⟨fun σ1 H1 => ∃ (ra : Addr) (rx : List V), σ1 = [some (.ref x), some (.str z), some (.int m), some (.str t), some (.int b), some (.ref ra)] ∧ Same H H1 ∧ H1 ra = some (.lst rx) ∧ rx.length ≤ 1 ∧ DtAll K H1 rx (notesD (if m < b then [(t, b - m)] else [])), ?_, ?_⟩
    · refine ⟨.int m, rfl, .int b, rfl, _, _, rfl, rfl, _, rfl, ite2 (fun e => ?_) (fun e => ?_)⟩
      · have e' := of_decide_eq_true e
        refine ⟨.str t, rfl, .int b, rfl, .int m, rfl, _, _, rfl, rfl, by show 2 ≤ sizeLine; decide, fun p np => ⟨by show 1 ≤ sizeLine; decide, fun p2 np2 => ⟨p2, _, rfl, (same_upd np).trans (same_upd np2), upd_same, Nat.le_refl _, ?_⟩⟩⟩
        rw [if_pos e']
        exact .cons (.tup (.inl (.inl (same_upd np2 _ _ upd_same))) (.cons (.str _) (.cons (.int _) .nil))) .nil
      · have e' : ¬ m < b := fun c => e (decide_eq_true c)
        refine ⟨Nat.zero_le _, fun p2 np2 => ⟨p2, _, rfl, same_upd np2, upd_same, Nat.zero_le _, ?_⟩⟩
        rw [if_neg e']
        exact .nil
    · rintro σ1 H1 ⟨ra, rx, rfl, s1, hra, lrx, dra⟩
      have hx1 := s1 _ _ hx
      have g1 : DGet H1 a.h (.str z) (some (.ref qa)) := dget_rd (.inl (s1 _ _ hh)) nd ej (map_get ejh)
      refine ⟨.ref ra, rfl, .ref x, rfl, x, C, dx, _, _, rfl, hx1, T.cl, T.n1, cf_h, .str z, rfl, a.h, .ref qa, rfl, g1, _, rfl, qa, _, rfl, .inl (.inl (s1 _ _ hq)), fun p np => ?_⟩
      rw [show cutV (V.ref na :: xr) (some 1) none = xr from cut_drop (V.ref na :: xr) 1]
      have s2 := s1.trans (same_upd (o := .lst xr) np)
      have lxr : xr.length ≤ 100 := by
        have h1 := dr.len
        have h2 := leftN_len l f
        have e3 : (notesD r).length = r.length := List.length_map ..
        rw [eL, List.length_cons] at h2
        have h1 : xr.length = (notesD r).length := h1
        omega
      refine ⟨ra, p, rx, xr, rfl, rfl, same_upd np _ _ hra, upd_same, by show _ ≤ 2 ^ 24; omega, fun p2 np2 => ?_⟩
      have s3 := s2.trans (same_upd (o := .lst (rx ++ xr)) np2)
      have h3 : upd (upd H1 p (.lst xr)) p2 (.lst (rx ++ xr)) p2 = some (.lst (rx ++ xr)) := upd_same
      have np2H : H p2 = none := s2.free np2
      have d3 : DtAll K (upd (upd H1 p (.lst xr)) p2 (.lst (rx ++ xr))) (rx ++ xr) (notesD (leftN l (f + m))) := by
        rw [left_fall hn f0 m0 mb eL]
        have e1 : notesD ((if m < b then [(t, b - m)] else []) ++ r) = notesD (if m < b then [(t, b - m)] else []) ++ notesD r := List.map_append ..
        rw [e1]
        exact (DtAll.same ((same_upd (o := .lst xr) np).trans (same_upd np2)) _ dra).append (DtAll.same s3 _ dr)
      generalize upd (upd H1 p (.lst xr)) p2 (.lst (rx ++ xr)) = H3 at s3 h3 d3
      have lsmall : ∀ vs : List V, vs.length = zs.length → (dct zs vs).length < sizeLine := fun vs e => by
        rw [dct_len e]
        show _ < 2 ^ 24
        omega
      -- self.heaps[who] = ..
      refine ⟨.ref x, rfl, x, C, dx, _, _, rfl, s3 _ _ hx, T.cl, T.n1, cf_h, .str z, rfl, a.h, _, rfl, DPut.k (k := Sum.inr z) (s3 _ _ hh) (lsmall _ (by rw [List.length_map]; exact lh)), ?_⟩
      rw [dct_put nd ej (by rw [List.length_map]; exact hjh), ← List.map_set]
      have d1 := co.d1
      have d2 := co.d2
      have d3' := co.d3
      obtain ⟨xh, xp, xs', xt⟩ := co.foot hx (by intro ys z; cases z) (by intro ks z; cases z)
      obtain ⟨ts, ht1, ht2⟩ := co.ht
      obtain ⟨th, tp, ts'⟩ := co.list ht1
      obtain ⟨fh, fp, fs, ft⟩ := co.fresh np2H
      have b4 : ButC a H (upd H3 a.h (.dK (dct zs ((hs.set j p2).map V.ref)))) := fun c o n1 n2 n3 n4 e => by
        rw [upd_ne n1]
        exact s3 _ _ e
      have k4 : KT H3 (upd H3 a.h (.dK (dct zs ((hs.set j p2).map V.ref)))) := kt_upd (s3 _ _ hh) fun z => z
      have hx4 : upd H3 a.h (.dK (dct zs ((hs.set j p2).map V.ref))) x = some (.ins C dx (cf a)) := by rw [upd_ne xh]; exact s3 _ _ hx
      have hp4 : upd H3 a.h (.dK (dct zs ((hs.set j p2).map V.ref))) a.p = some (.dK (dct zs ((zs.map (cashY zs D)).map V.int))) := by rw [upd_ne d1.symm]; exact s3 _ _ co.hp
      have hs4 : upd H3 a.h (.dK (dct zs ((hs.set j p2).map V.ref))) a.s = some (.dK (dct zs ((zs.map (sunkY zs F D)).map V.int))) := by rw [upd_ne d2.symm]; exact s3 _ _ co.hs
      have ht4 : upd H3 a.h (.dK (dct zs ((hs.set j p2).map V.ref))) a.t = some (.lst ts) := by rw [upd_ne th]; exact s3 _ _ ht1
      have hh4 : upd H3 a.h (.dK (dct zs ((hs.set j p2).map V.ref))) a.h = some (.dK (dct zs ((hs.set j p2).map V.ref))) := upd_same
      have hq4 : upd H3 a.h (.dK (dct zs ((hs.set j p2).map V.ref))) p2 = some (.lst (rx ++ xr)) := by rw [upd_ne fh]; exact h3
      have dq4 := DtAll.keepT k4 _ (tup_notes _) d3
      have kt4 : KT H (upd H3 a.h (.dK (dct zs ((hs.set j p2).map V.ref)))) := (kt_same s3).trans k4
      generalize upd H3 a.h (.dK (dct zs ((hs.set j p2).map V.ref))) = H4 at b4 k4 hx4 hp4 hs4 ht4 hh4 hq4 dq4 kt4
      have lz1 : ∀ φ : Str → Int, ((zs.map φ).map V.int).length = zs.length := fun φ => by rw [List.length_map, List.length_map]
      have gv : ∀ (φ : Str → Int) (i : Nat) (y : Str), zs[i]? = some y → ((zs.map φ).map V.int)[i]? = some (.int (φ y)) := fun φ i y e => map_get (map_get e)
      -- self.sunk[who] += amount
      refine ⟨.ref x, rfl, x, C, dx, _, _, rfl, hx4, T.cl, T.n3, cf_s, .str z, rfl, a.s, _, rfl, dget_rd (.inl hs4) nd ej (gv _ j z ej), .int m, rfl, _, _, rfl, rfl, _, DPut.k (k := Sum.inr z) hs4 (lsmall _ (lz1 _)), ?_⟩
      have hz : z ∈ zs := List.mem_of_getElem? ej
      have ix : zs.idxOf z = j := by rw [← ezj]; exact nd.idxOf_getElem j hj
      have injz : ∀ y ∈ zs, (zs.idxOf y = j ↔ y = z) := fun y hy => ⟨fun c => by
        have := idx_get hy
        rw [c, ej] at this
        exact (Option.some.inj this).symm, fun c => by rw [c]; exact ix⟩
      have hjf : j < D.fallen.length := (List.getElem?_eq_some_iff.mp ef).1
      have fg : ∀ i, (fellD D j (f + m)).fallen.getD i 0 = if i = j then f + m else D.fallen.getD i 0 := fun i => by
        show (D.fallen.set j (f + m)).getD i 0 = _
        by_cases h : i = j
        · subst h
          rw [if_pos rfl, getD_of (List.getElem?_set_self hjf)]
        · rw [if_neg h, List.getD_eq_getElem?_getD, List.getElem?_set_ne (fun c => h c.symm), List.getD_eq_getElem?_getD]
      rw [dct_put nd ej (by rw [lz1]; exact hj), map_set_idx (ψ := sunkY zs F (fellD D j (f + m))) nd ej (by
        unfold sunkY
        rw [fg, ix, if_pos rfl, getD_of ef]
        omega) (fun y hy ny => by
        unfold sunkY
        rw [fg, if_neg (fun c => ny ((injz y hy).mp c))])]
      have b5 : ButC a H (upd H4 a.s (.dK (dct zs ((zs.map (sunkY zs F (fellD D j (f + m)))).map V.int)))) := fun c o n1 n2 n3 n4 e => by
        rw [upd_ne n3]
        exact b4 c o n1 n2 n3 n4 e
      have k5 : KT H4 (upd H4 a.s (.dK (dct zs ((zs.map (sunkY zs F (fellD D j (f + m)))).map V.int)))) := kt_upd hs4 fun z => z
      have hx5 : upd H4 a.s (.dK (dct zs ((zs.map (sunkY zs F (fellD D j (f + m)))).map V.int))) x = _ := (upd_ne xs').trans hx4
      have hp5 : upd H4 a.s (.dK (dct zs ((zs.map (sunkY zs F (fellD D j (f + m)))).map V.int))) a.p = _ := (upd_ne d3').trans hp4
      have hs5 : upd H4 a.s (.dK (dct zs ((zs.map (sunkY zs F (fellD D j (f + m)))).map V.int))) a.s = some (.dK (dct zs ((zs.map (sunkY zs F (fellD D j (f + m)))).map V.int))) := upd_same
      have ht5 : upd H4 a.s (.dK (dct zs ((zs.map (sunkY zs F (fellD D j (f + m)))).map V.int))) a.t = _ := (upd_ne ts').trans ht4
      have hh5 : upd H4 a.s (.dK (dct zs ((zs.map (sunkY zs F (fellD D j (f + m)))).map V.int))) a.h = _ := (upd_ne d2).trans hh4
      have hq5 : upd H4 a.s (.dK (dct zs ((zs.map (sunkY zs F (fellD D j (f + m)))).map V.int))) p2 = _ := (upd_ne fs).trans hq4
      have dq5 := DtAll.keepT k5 _ (tup_notes _) dq4
      have kt5 := kt4.trans k5
      generalize upd H4 a.s (.dK (dct zs ((zs.map (sunkY zs F (fellD D j (f + m)))).map V.int))) = H5 at b5 k5 hx5 hp5 hs5 ht5 hh5 hq5 dq5 kt5
      -- self.purses[who] -= amount
      refine ⟨.ref x, rfl, x, C, dx, _, _, rfl, hx5, T.cl, T.n2, cf_p, .str z, rfl, a.p, _, rfl, dget_rd (.inl hp5) nd ej (gv _ j z ej), .int m, rfl, _, _, rfl, rfl, _, DPut.k (k := Sum.inr z) hp5 (lsmall _ (lz1 _)), ?_⟩
      rw [dct_put nd ej (by rw [lz1]; exact hj), map_set_idx (ψ := fun y => cashY zs D y - if y = z then m else 0) nd ej (by rw [if_pos rfl]) (fun y hy ny => by rw [if_neg ny, Int.sub_zero])]
      have hx6 : upd H5 a.p (.dK (dct zs ((zs.map fun y => cashY zs D y - if y = z then m else 0).map V.int))) x = _ := (upd_ne xp).trans hx5
      have hp6 : upd H5 a.p (.dK (dct zs ((zs.map fun y => cashY zs D y - if y = z then m else 0).map V.int))) a.p = some (.dK (dct zs ((zs.map fun y => cashY zs D y - if y = z then m else 0).map V.int))) := upd_same
      have htj : zs[zs.idxOf t]? = some t := idx_get ht
      have htl : zs.idxOf t < zs.length := List.idxOf_lt_length_of_mem ht
      -- self.purses[to] += amount
      refine ⟨.ref x, rfl, x, C, dx, _, _, rfl, hx6, T.cl, T.n2, cf_p, .str t, rfl, a.p, _, rfl, dget_rd (.inl hp6) nd htj (gv _ _ t htj), .int m, rfl, _, _, rfl, rfl, _, DPut.k (k := Sum.inr t) hp6 (lsmall _ (lz1 _)), ?_⟩
      have cY : ∀ y ∈ zs, cashY zs (fellD D j (f + m)) y = cashY zs D y - (if y = z then m else 0) + if t = y then m else 0 := fun y hy => by
        unfold cashY
        rw [fell_cash hn f0 el ef eL m0 mb]
        have := injz y hy
        by_cases h : y = z
        · rw [if_pos (this.mpr h), if_pos h]
          omega
        · rw [if_neg (fun c => h (this.mp c)), if_neg h]
          omega
      rw [dct_put nd htj (by rw [lz1]; exact htl), map_set_idx (ψ := cashY zs (fellD D j (f + m))) nd htj (by rw [cY t ht, if_pos rfl]) (fun y hy ny => by rw [cY y hy, if_neg (show ¬ t = y from fun c => ny c.symm), Int.add_zero]), upd_upd]
      have k7 : KT H5 (upd H5 a.p (.dK (dct zs ((zs.map (cashY zs (fellD D j (f + m)))).map V.int)))) := kt_upd hp5 fun z => z
      refine q _ (fun c o n1 n2 n3 n4 e => by rw [upd_ne n2]; exact b5 c o n1 n2 n3 n4 e) ⟨⟨dx, (upd_ne xp).trans hx5⟩, ⟨hs.set j p2, (upd_ne d1).trans hh5, by rw [List.length_set]; exact lh, fun i q' l' f' e1 e2 e3 => ?_⟩, upd_same, (upd_ne d3'.symm).trans hs5, ⟨ts, (upd_ne tp).trans ht5, ht2⟩, d1, d2, d3', co.ln, by show (D.fallen.set _ _).length = _; rw [List.length_set]; exact co.lf⟩
      by_cases h : i = j
      · subst h
        rw [List.getElem?_set_self hjh] at e1
        cases e1
        have e2' : D.notes[i]? = some l' := e2
        rw [el] at e2'
        cases e2'
        have e3' : (D.fallen.set i (f + m))[i]? = some f' := e3
        rw [List.getElem?_set_self hjf] at e3'
        cases e3'
        exact ⟨ft, _, (upd_ne fp).trans hq5, DtAll.keepT k7 _ (tup_notes _) dq5⟩
      · rw [List.getElem?_set_ne (fun c => h c.symm)] at e1
        have e3' : (D.fallen.set j (f + m))[i]? = some f' := e3
        rw [List.getElem?_set_ne (fun c => h c.symm)] at e3'
        obtain ⟨nt', ys, y1, y2⟩ := hrow i q' l' f' e1 e2 e3'
        obtain ⟨m1, m2, m3⟩ := co.list y1
        exact ⟨nt', ys, (upd_ne m2).trans (b5 _ _ m1 m2 m3 nt' y1), DtAll.keepT (kt5.trans k7) _ (tup_notes _) y2⟩
end
end Rc

namespace Rc
open PySem PySem.Spec PyProof.Rows L2 RZ LamX
theorem cput1 (a : V) : putF "heaps" a [] = ([("heaps", a)] : List (Str × V)) := rfl
theorem cput2 (a b : V) : putF "purses" b [("heaps", a)] = ([("heaps", a), ("purses", b)] : List (Str × V)) := by
  rw [putF_miss (by decide +kernel)]
  rfl
theorem cput3 (a b c : V) : putF "sunk" c [("heaps", a), ("purses", b)] = ([("heaps", a), ("purses", b), ("sunk", c)] : List (Str × V)) := by
  rw [putF_miss (by decide +kernel), putF_miss (by decide +kernel)]
  rfl
theorem cput4 (a b c d : V) : putF "steps" d [("heaps", a), ("purses", b), ("sunk", c)] = cfV a b c d := by
  rw [putF_miss (by decide +kernel), putF_miss (by decide +kernel), putF_miss (by decide +kernel)]
  rfl
section
variable {P : Program} {w : World} {K : PySem.W.Frag} {mg : Str → Option Value} {base : Heap}
/-! ### Course.__init__ -/
abbrev sCIn : Stmt := inCourse 0
abbrev nCIn : List Str := ["self", "book", "who"]
theorem scCIn : FnScope nCIn ["self", "book"] (defScope sCIn) := ⟨rfl, rfl, rfl, by decide +kernel, rfl, by decide +kernel, by decide +kernel⟩
def spCIn (K : PySem.W.Frag) (C CC : Addr) : Sp := fun vs H Q _ => ∃ (x dx b : Addr) (zs : List Str) (D : Md), vs = [.ref x, .ref b] ∧ H x = some (.ins CC dx []) ∧ BookAt K C H b (bkOf zs D) ∧ Gs zs D ∧
  ∀ a H', But x H H' → (H a.h = none ∧ H a.p = none ∧ H a.s = none ∧ H a.t = none) → CourseAt K CC H' x a zs D.fallen D 0 → Q .non H'
theorem ok_cIn {f f1 f2 f3 C CC : Addr} {fd fd1 fd2 fd3 : FuncData} (F : Fun K "__init__" "Course.__init__" sCIn f fd) (T : ClsF K C) (TC : ClsC K CC) (PS' : HasM P w K mg base C 1 "persons" ["self"] (spPersons K C) f1 fd1)
    (PI' : HasM P w K mg base C 5 "pile" ["self", "who"] (spRow K C leftN) f2 fd2) (CS : HasM P w K mg base C 5 "cash" ["self", "who"] (spCalc K C cashM) f3 fd3) : FnOk P w K mg base CX0 6 f fd ["self", "book"] (spCIn K C CC) := by
  refine F.ok scCIn (fun vs H Q E h => ?_) (fun cdv A outer s H vs Q E hr h => ?_)
  · obtain ⟨_, _, _, _, _, rfl, _⟩ := h
    rfl
  · obtain ⟨x, dx, b, zs, D, rfl, hx, hb, g, q⟩ := h
    have hr1 := hr.mono (show 1 ≤ 5 by decide)
    refine ⟨_, pss_cons (ps_fld (pv 0) (pe_dc (own := [("who", 2)]) (g := gName 2) (tt := tYes) rfl scCIn.nd (pi_list (pe_meth0 (pv 1) T.cl PS'.m PS'.ok hr1 PS'.b .nil pass0)) (blkOk_by (N := nCIn) (sc := defScope sCIn) (own := [("who", 2)]) (by decide +kernel))
        (fun _ _ _ _ _ => pg_name (i := 2) scCIn.nd rfl (.inl rfl) (hf := .inr rfl)) (fun _ _ _ _ _ => pts_nil) (fun _ _ _ _ _ => pv 2)
        (fun _ _ _ _ _ => pe_meth (pv 1) T.cl PI'.m PI'.ok hr PI'.b .nil pass0 (pa_cons (pv 2) pa_nil))) rfl)
      (pss_cons (ps_fld (pv 0) (pe_dc (own := [("who", 2)]) (g := gName 2) (tt := tYes) rfl scCIn.nd (pi_list (pe_meth0 (pv 1) T.cl PS'.m PS'.ok hr1 PS'.b .nil pass0)) (blkOk_by (N := nCIn) (sc := defScope sCIn) (own := [("who", 2)]) (by decide +kernel))
        (fun _ _ _ _ _ => pg_name (i := 2) scCIn.nd rfl (.inl rfl) (hf := .inr rfl)) (fun _ _ _ _ _ => pts_nil) (fun _ _ _ _ _ => pv 2)
        (fun _ _ _ _ _ => pe_meth (pv 1) T.cl CS.m CS.ok hr CS.b .nil pass0 (pa_cons (pv 2) pa_nil))) rfl)
      (pss_cons (ps_fld (pv 0) (pe_dc (own := [("who", 2)]) (g := gName 2) (tt := tYes) rfl scCIn.nd (pi_list (pe_meth0 (pv 1) T.cl PS'.m PS'.ok hr1 PS'.b .nil pass0)) (blkOk_by (N := nCIn) (sc := defScope sCIn) (own := [("who", 2)]) (by decide +kernel))
        (fun _ _ _ _ _ => pg_name (i := 2) scCIn.nd rfl (.inl rfl) (hf := .inr rfl)) (fun _ _ _ _ _ => pts_nil) (fun _ _ _ _ _ => pv 2)
        (fun _ _ _ _ _ => pe_int)) rfl)
      (pss_one (ps_fld (pv 0) (pe_lst pa_nil) rfl)))), ?_⟩
    have ok := g.ok
    have n12 := g.nz.n1
    have nd := g.nz.nd
    have lnm : (zs.map V.str).length = zs.length := List.length_map ..
    have notk : ∀ {i : Nat} (hi : i < zs.length) (vs : List V), ∀ kv ∈ dct (zs.take i) vs, ¬ kv.1 = (Sum.inr zs[i] : Key) := fun {i} hi vs => dct_nokey fun z => by
      obtain ⟨j, hj, e'⟩ := List.getElem_of_mem z
      rw [List.length_take] at hj
      rw [List.getElem_take] at e'
      have := (List.getElem_inj nd).mp e'
      omega
    have bookx : ∀ {H' : Hp} {fs : List (Str × V)}, BookAt K C H' b (bkOf zs D) → H' x = some (.ins CC dx fs) → ∀ fs', BookAt K C (upd H' x (.ins CC dx fs')) b (bkOf zs D) ∨ b = x := fun {H' fs} hb' hx' fs' => by
      by_cases h : b = x
      · exact .inr h
      · left
        obtain ⟨dx', tn, on, wg, ws, wd, e, h1, hn, h2, h3, h4⟩ := hb'.ex
        have kt : KT H' (upd H' x (.ins CC dx fs')) := kt_upd hx' fun z => z
        exact ⟨dx', tn, on, wg, ws, wd, (upd_ne h).trans e, kt _ _ h1 trivial, hn, Dt.keepT kt _ (tup_ints _) h2, Dt.keepT kt _ (tup_stacks _) h3, Dt.keepT kt _ (tup_ints _) h4⟩
    have nbx : b ≠ x := fun z => by
      obtain ⟨dx', tn, on, wg, ws, wd, e, _⟩ := hb.ex
      rw [z, hx] at e
      cases e
    have bookx' : ∀ {H' : Hp} {fs : List (Str × V)}, BookAt K C H' b (bkOf zs D) → H' x = some (.ins CC dx fs) → ∀ fs', BookAt K C (upd H' x (.ins CC dx fs')) b (bkOf zs D) := fun hb' hx' fs' => (bookx hb' hx' fs').resolve_right nbx
    -- self.heaps
    obtain ⟨dxb, tn, on, wg, ws, wd, e, h1, hn, h2, h3, h4⟩ := hb.ex
    refine ⟨.ref b, rfl, b, dxb, _, rfl, e, bf_no (NoF.mk' (by decide +kernel)), b, _, rfl, hb, fun l nl => ⟨l, rfl, ⟨_, .inl (.inl upd_same)⟩, fun dA nA => ?_⟩⟩
    have s1 := same_upd (o := .lst (zs.map V.str)) nl
    have hl1 : upd H l (.lst (zs.map V.str)) l = some (.lst (zs.map V.str)) := upd_same
    have nAH : H dA = none := s1.free nA
    have nA' : upd H l (.lst (zs.map V.str)) dA = none := nA
    refine out_it (walk_list (K := K) (a := l) (xs := zs.map V.str)) (fun i H' => Same (upd H l (.lst (zs.map V.str))) H' ∧ ∃ hs : List Addr, H' dA = some (.dK (dct (zs.take i) (hs.map V.ref))) ∧ hs.length = i ∧ ∀ (k : Nat) (q : Addr) (l : List (Str × Int)) (f : Int), hs[k]? = some q → D.notes[k]? = some l → D.fallen[k]? = some f → q ≠ dA ∧ H q = none ∧ ∃ xs, H' q = some (.lst xs) ∧ DtAll K H' xs (notesD (leftN l f)))
      ⟨same_upd nA', [], upd_same, rfl, fun k q l f e => by cases e⟩ (fun i H' _ hP => .inl (.inl (hP.1 _ _ hl1))) (fun i y H2' H2 hi hP hY => ?_) (fun H2 hP => ?_)
    · obtain ⟨rfl, hy⟩ := hY
      obtain ⟨s2, hs, hD, lh, hrow⟩ := hP
      rw [lnm] at hi
      have ey : y = .str zs[i] := by
        rw [List.getElem?_map, List.getElem?_eq_getElem hi] at hy
        exact (Option.some.inj hy).symm
      subst ey
      have s02 := s1.trans s2
      obtain ⟨gg, ll, dd, eg, el, ed, lll⟩ := ok.at_ (show (bkOf zs D).names[i]? = some zs[i] from List.getElem?_eq_getElem hi)
      refine ⟨rfl, _, rfl, .ref b, rfl, b, dxb, _, rfl, s02 _ _ e, bf_no (NoF.mk' (by decide +kernel)), _, rfl, b, _, zs[i], i, ll, dd, rfl, book_same hb s02, ok.names, List.getElem?_eq_getElem hi, el, ed, by omega, fun r xs H3 s3 nr hr3 dr => ?_⟩
      have hD3 := s3 _ _ hD
      have nrA : r ≠ dA := (ne_of_none hD nr).symm
      refine ⟨_, Sum.inr zs[i], rfl, hD3, ?_, fun c o ec => ?_, ?_⟩
      · rw [dct_len (by rw [List.length_map, lh, List.length_take]; omega), List.length_take]
        exact small1000 (by omega)
      · rw [upd_ne (ne_of_none ec nA')]
        exact s3 _ _ (s2 c o ec)
      · have kt : KT H3 (upd H3 dA (.dK (putK (dct (zs.take i) (hs.map V.ref)) (Sum.inr zs[i]) (.ref r)))) := kt_upd hD3 fun z => z
        refine ⟨hs ++ [r], ?_, by rw [List.length_append, lh]; rfl, fun k q l' f' e1 e2 e3 => ?_⟩
        · rw [upd_same, put_new (notk hi _), List.map_append, List.map_cons, List.map_nil, ← dct_snoc (by rw [List.length_map, lh, List.length_take]; omega), ← take_succ hi]
        · by_cases hk : k < hs.length
          · rw [List.getElem?_append_left hk] at e1
            obtain ⟨q1, q2, ys, q3, q4⟩ := hrow k q l' f' e1 e2 e3
            exact ⟨q1, q2, ys, by rw [upd_ne q1]; exact s3 _ _ q3, DtAll.keepT ((kt_same s3).trans kt) _ (tup_notes _) q4⟩
          · have hk2 := (List.getElem?_eq_some_iff.mp e1).1
            rw [List.length_append, List.length_singleton] at hk2
            have ek : k = i := by omega
            subst ek
            rw [List.getElem?_append_right (by omega), lh, Nat.sub_self] at e1
            cases e1
            have e2' : D.notes[k]? = some ll := el
            have e3' : D.fallen[k]? = some dd := ed
            rw [e2'] at e2
            rw [e3'] at e3
            cases e2
            cases e3
            exact ⟨nrA, s02.free nr, xs, by rw [upd_ne nrA]; exact hr3, DtAll.keepT kt _ (tup_notes _) dr⟩
    · obtain ⟨s2, hs, hD, lh, hrow⟩ := hP
      rw [lnm] at lh
      rw [lnm, List.take_length] at hD
      have s02 := s1.trans s2
      clear s1 hl1 s2 nA nA'
      refine ⟨.ref x, rfl, x, CC, dx, _, rfl, s02 _ _ hx, TC.cl, TC.n1, by show 0 < 1000; decide, ?_⟩
      rw [cput1]
      have hxA : x ≠ dA := ne_of_none hx nAH
      have b3 : But x H (upd H2 x (.ins CC dx [("heaps", V.ref dA)])) := (same_but s02).trans But.at
      have k3 : KT H2 (upd H2 x (.ins CC dx [("heaps", V.ref dA)])) := kt_upd (s02 _ _ hx) fun z => z
      have hx3 : upd H2 x (.ins CC dx [("heaps", V.ref dA)]) x = some (.ins CC dx [("heaps", V.ref dA)]) := upd_same
      have hb3 := bookx' (book_same hb s02) (s02 _ _ hx) [("heaps", V.ref dA)]
      have hD3 : upd H2 x (.ins CC dx [("heaps", V.ref dA)]) dA = some (.dK (dct zs (hs.map V.ref))) := (upd_ne hxA.symm).trans hD
      have row3 : ∀ (k : Nat) (q : Addr) (l : List (Str × Int)) (f : Int), hs[k]? = some q → D.notes[k]? = some l → D.fallen[k]? = some f → q ≠ x ∧ ∃ xs, upd H2 x (.ins CC dx [("heaps", V.ref dA)]) q = some (.lst xs) ∧ DtAll K (upd H2 x (.ins CC dx [("heaps", V.ref dA)])) xs (notesD (leftN l f)) := fun k q l f e1 e2 e3 => by
        obtain ⟨q1, q2, ys, q3, q4⟩ := hrow k q l f e1 e2 e3
        have nqx : q ≠ x := (ne_of_none hx q2).symm
        exact ⟨nqx, ys, (upd_ne nqx).trans q3, DtAll.keepT k3 _ (tup_notes _) q4⟩
      generalize upd H2 x (.ins CC dx [("heaps", V.ref dA)]) = H3 at b3 k3 hx3 hb3 hD3 row3
      clear hrow hD s02 k3
      -- self.purses
      obtain ⟨dxb', tn', on', wg', ws', wd', e', _⟩ := hb3.ex
      refine ⟨.ref b, rfl, b, dxb', _, rfl, e', bf_no (NoF.mk' (by decide +kernel)), b, _, rfl, hb3, fun l2 nl2 => ⟨l2, rfl, ⟨_, .inl (.inl upd_same)⟩, fun pA nP => ?_⟩⟩
      have t1 := same_upd (o := .lst (zs.map V.str)) nl2
      have hl2 : upd H3 l2 (.lst (zs.map V.str)) l2 = some (.lst (zs.map V.str)) := upd_same
      have nP3 : H3 pA = none := t1.free nP
      have nP' : upd H3 l2 (.lst (zs.map V.str)) pA = none := nP
      refine out_it (walk_list (K := K) (a := l2) (xs := zs.map V.str)) (fun i H' => Same (upd H3 l2 (.lst (zs.map V.str))) H' ∧ H' pA = some (.dK (dct (zs.take i) (((zs.take i).map (cashY zs D)).map V.int))))
        ⟨same_upd nP', upd_same⟩ (fun i H' _ hP => .inl (.inl (hP.1 _ _ hl2))) (fun i y H4' H4 hi hP hY => ?_) (fun H4 hP => ?_)
      · obtain ⟨rfl, hy⟩ := hY
        obtain ⟨s4, hP4⟩ := hP
        rw [lnm] at hi
        have ey : y = .str zs[i] := by
          rw [List.getElem?_map, List.getElem?_eq_getElem hi] at hy
          exact (Option.some.inj hy).symm
        subst ey
        have s34 := t1.trans s4
        refine ⟨rfl, _, rfl, .ref b, rfl, b, dxb', _, rfl, s34 _ _ e', bf_no (NoF.mk' (by decide +kernel)), _, rfl, b, _, zs[i], i, rfl, book_same hb3 s34, ok, List.getElem?_eq_getElem hi, fun H5 s5 => ?_⟩
        have hP5 := s5 _ _ hP4
        refine ⟨_, Sum.inr zs[i], rfl, hP5, ?_, fun c o ec => ?_, ?_⟩
        · rw [dct_len (by rw [List.length_map, List.length_map]), List.length_take]
          exact small1000 (by omega)
        · rw [upd_ne (ne_of_none ec nP')]
          exact s5 _ _ (s4 c o ec)
        · rw [upd_same, put_new (notk hi _), take_succ hi, List.map_append, List.map_append, show List.map V.int (List.map (cashY zs D) [zs[i]]) = [V.int (cashY zs D zs[i])] from rfl, dct_snoc (by rw [List.length_map, List.length_map])]
          have ec : cashY zs D zs[i] = cashM (bkOf zs D) i zs[i] := by
            unfold cashY
            rw [nd.idxOf_getElem i hi]
          show some (HO.dK (_ ++ [(Sum.inr zs[i], V.int (cashM (bkOf zs D) i zs[i]))])) = some (HO.dK (_ ++ [(Sum.inr zs[i], V.int (cashY zs D zs[i]))]))
          rw [ec]
      · obtain ⟨s4, hP4⟩ := hP
        rw [lnm, List.take_length] at hP4
        have s34 := t1.trans s4
        clear t1 hl2 s4 nP nP'
        refine ⟨.ref x, rfl, x, CC, dx, _, rfl, s34 _ _ hx3, TC.cl, TC.n2, by show 1 < 1000; decide, ?_⟩
        rw [cput2]
        have hxP : x ≠ pA := ne_of_none hx3 nP3
        have b5 : But x H (upd H4 x (.ins CC dx [("heaps", V.ref dA), ("purses", V.ref pA)])) := b3.trans ((same_but s34).trans But.at)
        have k5 : KT H3 (upd H4 x (.ins CC dx [("heaps", V.ref dA), ("purses", V.ref pA)])) := (kt_same s34).trans (kt_upd (s34 _ _ hx3) fun z => z)
        have u5 : ∀ c o, c ≠ x → H3 c = some o → upd H4 x (.ins CC dx [("heaps", V.ref dA), ("purses", V.ref pA)]) c = some o := fun c o n ec => (upd_ne n).trans (s34 _ _ ec)
        have hx5 : upd H4 x (.ins CC dx [("heaps", V.ref dA), ("purses", V.ref pA)]) x = some (.ins CC dx [("heaps", V.ref dA), ("purses", V.ref pA)]) := upd_same
        have hb5 := bookx' (book_same hb3 s34) (s34 _ _ hx3) [("heaps", V.ref dA), ("purses", V.ref pA)]
        have hP5 : upd H4 x (.ins CC dx [("heaps", V.ref dA), ("purses", V.ref pA)]) pA = some (.dK (dct zs ((zs.map (cashY zs D)).map V.int))) := (upd_ne hxP.symm).trans hP4
        generalize upd H4 x (.ins CC dx [("heaps", V.ref dA), ("purses", V.ref pA)]) = H5 at b5 k5 u5 hx5 hb5 hP5
        clear hP4 s34
        -- self.sunk
        obtain ⟨dxc, tn2, on2, wg2, ws2, wd2, e2, _⟩ := hb5.ex
        refine ⟨.ref b, rfl, b, dxc, _, rfl, e2, bf_no (NoF.mk' (by decide +kernel)), b, _, rfl, hb5, fun l3 nl3 => ⟨l3, rfl, ⟨_, .inl (.inl upd_same)⟩, fun sA nS => ?_⟩⟩
        have t1 := same_upd (o := .lst (zs.map V.str)) nl3
        have hl3 : upd H5 l3 (.lst (zs.map V.str)) l3 = some (.lst (zs.map V.str)) := upd_same
        have nS5 : H5 sA = none := t1.free nS
        have nS' : upd H5 l3 (.lst (zs.map V.str)) sA = none := nS
        refine out_it (walk_list (K := K) (a := l3) (xs := zs.map V.str)) (fun i H' => Same (upd H5 l3 (.lst (zs.map V.str))) H' ∧ H' sA = some (.dK (dct (zs.take i) (((zs.take i).map (sunkY zs D.fallen D)).map V.int))))
          ⟨same_upd nS', upd_same⟩ (fun i H' _ hP => .inl (.inl (hP.1 _ _ hl3))) (fun i y H6' H6 hi hP hY => ?_) (fun H6 hP => ?_)
        · obtain ⟨rfl, hy⟩ := hY
          obtain ⟨s6, hS6⟩ := hP
          rw [lnm] at hi
          have ey : y = .str zs[i] := by
            rw [List.getElem?_map, List.getElem?_eq_getElem hi] at hy
            exact (Option.some.inj hy).symm
          subst ey
          refine ⟨rfl, _, rfl, _, Sum.inr zs[i], rfl, hS6, ?_, fun c o ec => ?_, ?_⟩
          · rw [dct_len (by rw [List.length_map, List.length_map]), List.length_take]
            exact small1000 (by omega)
          · rw [upd_ne (ne_of_none ec nS')]
            exact s6 c o ec
          · rw [upd_same, put_new (notk hi _), take_succ hi, List.map_append, List.map_append, show List.map V.int (List.map (sunkY zs D.fallen D) [zs[i]]) = [V.int (sunkY zs D.fallen D zs[i])] from rfl, dct_snoc (by rw [List.length_map, List.length_map])]
            have ec : sunkY zs D.fallen D zs[i] = 0 := by
              unfold sunkY
              omega
            show some (HO.dK (_ ++ [(Sum.inr zs[i], V.int 0)])) = some (HO.dK (_ ++ [(Sum.inr zs[i], V.int (sunkY zs D.fallen D zs[i]))]))
            rw [ec]
        · obtain ⟨s6, hS6⟩ := hP
          rw [lnm, List.take_length] at hS6
          have s56 := t1.trans s6
          refine ⟨.ref x, rfl, x, CC, dx, _, rfl, s56 _ _ hx5, TC.cl, TC.n3, by show 2 < 1000; decide, ?_⟩
          rw [cput3]
          have hxS : x ≠ sA := ne_of_none hx5 nS5
          have b7 : But x H (upd H6 x (.ins CC dx [("heaps", V.ref dA), ("purses", V.ref pA), ("sunk", V.ref sA)])) := b5.trans ((same_but s56).trans But.at)
          have k7 : KT H5 (upd H6 x (.ins CC dx [("heaps", V.ref dA), ("purses", V.ref pA), ("sunk", V.ref sA)])) := (kt_same s56).trans (kt_upd (s56 _ _ hx5) fun z => z)
          have u7 : ∀ c o, c ≠ x → H5 c = some o → upd H6 x (.ins CC dx [("heaps", V.ref dA), ("purses", V.ref pA), ("sunk", V.ref sA)]) c = some o := fun c o n ec => (upd_ne n).trans (s56 _ _ ec)
          have hx7 : upd H6 x (.ins CC dx [("heaps", V.ref dA), ("purses", V.ref pA), ("sunk", V.ref sA)]) x = some (.ins CC dx [("heaps", V.ref dA), ("purses", V.ref pA), ("sunk", V.ref sA)]) := upd_same
          have hS7 : upd H6 x (.ins CC dx [("heaps", V.ref dA), ("purses", V.ref pA), ("sunk", V.ref sA)]) sA = some (.dK (dct zs ((zs.map (sunkY zs D.fallen D)).map V.int))) := (upd_ne hxS.symm).trans hS6
          generalize upd H6 x (.ins CC dx [("heaps", V.ref dA), ("purses", V.ref pA), ("sunk", V.ref sA)]) = H7 at b7 k7 u7 hx7 hS7
          -- self.steps
          refine ⟨Nat.zero_le _, fun tA nT => ?_⟩
          have s8 := same_upd (o := .lst []) nT
          have hxT : x ≠ tA := ne_of_none hx7 nT
          refine ⟨.ref x, rfl, x, CC, dx, _, rfl, s8 _ _ hx7, TC.cl, TC.n4, by show 3 < 1000; decide, ?_⟩
          rw [cput4]
          have k8 : KT H7 (upd (upd H7 tA (.lst [])) x (.ins CC dx (cfV (V.ref dA) (V.ref pA) (V.ref sA) (V.ref tA)))) := (kt_same s8).trans (kt_upd (s8 _ _ hx7) fun z => z)
          have u8 : ∀ c o, c ≠ x → H7 c = some o → upd (upd H7 tA (.lst [])) x (.ins CC dx (cfV (V.ref dA) (V.ref pA) (V.ref sA) (V.ref tA))) c = some o := fun c o n ec => (upd_ne n).trans (s8 _ _ ec)
          have hD5 := u5 _ _ hxA.symm hD3
          have hD7 := u7 _ _ hxA.symm hD5
          have hP7 := u7 _ _ hxP.symm hP5
          have frH : ∀ {c : Addr}, H7 c = none → H c = none := fun {c} n => by
            cases z : H c with
            | none => rfl
            | some o =>
              have ncx : c ≠ x := fun y => by rw [y, hx7] at n; cases n
              rw [b7 c o ncx z] at n
              cases n
          have nSH : H sA = none := by
            cases z : H sA with
            | none => rfl
            | some o => rw [b5 sA o hxS.symm z] at nS5; cases nS5
          have nPH : H pA = none := by
            cases z : H pA with
            | none => rfl
            | some o => rw [b3 pA o hxP.symm z] at nP3; cases nP3
          refine q ⟨dA, pA, sA, tA⟩ _ (b7.trans ((same_but s8).trans But.at)) ⟨nAH, nPH, nSH, frH nT⟩ ⟨⟨dx, upd_same⟩, ⟨hs, u8 _ _ hxA.symm hD7, lh, fun i q' l' f' e1 e2 e3 => ?_⟩, u8 _ _ hxP.symm hP7, u8 _ _ hxS.symm hS7, ⟨[], (upd_ne hxT.symm).trans upd_same, Nat.le_refl _⟩, ne_of_none hD3 nP3, ne_of_none hD5 nS5, ne_of_none hP5 nS5, g.ln, g.lf⟩
          obtain ⟨nqx, ys, r1, r2⟩ := row3 i q' l' f' e1 e2 e3
          have r7 := u7 _ _ nqx (u5 _ _ nqx r1)
          exact ⟨ne_of_none r7 nT, ys, u8 _ _ nqx r7, DtAll.keepT (k5.trans (k7.trans k8)) _ (tup_notes _) r2⟩
end
end Rc

namespace Rc
open PySem PySem.Spec PyProof.Rows L2 RZ LamX
/-- all tuples as they were, locked ones too; a locked dict may be another -/
def KU (H H' : Hp) : Prop := (∀ b xs, H b = some (.tup xs) → H' b = some (.tup xs)) ∧ ∀ b ob xs, H b = some (.frz ob (.tup xs)) → H' b = some (.frz ob (.tup xs))
theorem KU.unlock {H : Hp} {d : Addr} {od : Obj} {kvs : List (Key × V)} {u : HO} (h : H d = some (.frz od (.dK kvs))) : KU H (upd H d u) :=
  ⟨fun b xs e => by
    rw [upd_ne (fun z => by rw [z, h] at e; cases e)]
    exact e, fun b ob xs e => by
    rw [upd_ne (fun z => by rw [z, h] at e; cases e)]
    exact e⟩
mutual
theorem Dt.keepU {K : PySem.W.Frag} {H H' : Hp} (e : KU H H') : ∀ {v : V} (d : PyData), tupD d = true → Dt K H v d → Dt K H' v d
  | _, .none, _, h => by cases h; exact .non
  | _, .bool _, _, h => by cases h; exact .bl _
  | _, .int _, _, h => by cases h; exact .int _
  | _, .str _, _, h => by cases h; exact .str _
  | _, .list ds, t, h => by simp [tupD] at t
  | _, .dict ps, t, h => by simp [tupD] at t
  | _, .tuple ds, t, h => by
    cases h with
    | tup q a =>
      refine .tup ?_ (DtAll.keepU e ds (by simpa [tupD] using t) a)
      rcases q with (q | ⟨o, q⟩) | q
      · exact .inl (.inl (e.1 _ _ q))
      · exact .inl (.inr ⟨o, e.2 _ _ _ q⟩)
      · exact .inr q
theorem DtAll.keepU {K : PySem.W.Frag} {H H' : Hp} (e : KU H H') : ∀ {vs : List V} (ds : List PyData), tupDs ds = true → DtAll K H vs ds → DtAll K H' vs ds
  | _, [], _, h => by cases h; exact .nil
  | _, d :: ds, t, h => by
    cases h with
    | cons a b =>
      have t' : tupD d = true ∧ tupDs ds = true := by simpa [tupDs] using t
      exact .cons (Dt.keepU e d t'.1 a) (DtAll.keepU e ds t'.2 b)
end
/-- one step more is told -/
theorem CourseAt.step {K : PySem.W.Frag} {C : Addr} {H : Hp} {x : Addr} {a : CoAd} {zs : List Str} {F : List Int} {D : Md} {n : Nat} (h : CourseAt K C H x a zs F D n) {ts : List V} (e : H a.t = some (.lst ts)) (l : ts.length ≤ n) (v : V) : CourseAt K C (upd H a.t (.lst (ts ++ [v]))) x a zs F D (n + 1) := by
  obtain ⟨dx, hx⟩ := h.hx
  obtain ⟨hs, e1, e2, e3⟩ := h.hh
  obtain ⟨th, tp, ts'⟩ := h.list e
  obtain ⟨_, _, _, xt⟩ := h.foot hx (by intro ys z; cases z) (by intro ks z; cases z)
  have kt : KT H (upd H a.t (.lst (ts ++ [v]))) := kt_upd e fun z => z
  refine ⟨⟨dx, (upd_ne xt).trans hx⟩, ⟨hs, (upd_ne th.symm).trans e1, e2, fun i q l f a1 a2 a3 => ?_⟩, (upd_ne tp.symm).trans h.hp, (upd_ne ts'.symm).trans h.hs, ⟨_, upd_same, by rw [List.length_append, List.length_singleton]; omega⟩, h.d1, h.d2, h.d3, h.ln, h.lf⟩
  obtain ⟨nq, ys, y1, y2⟩ := e3 i q l f a1 a2 a3
  exact ⟨nq, ys, (upd_ne nq).trans y1, DtAll.keepT kt _ (tup_notes _) y2⟩
section
variable {P : Program} {w : World} {K : PySem.W.Frag} {mg : Str → Option Value} {base : Heap}
/-! ### dues -/
abbrev sCDu : Stmt := inCourse 1
abbrev nCDu : List Str := ["self", "who", "heap"]
theorem scCDu : FnScope nCDu ["self"] (defScope sCDu) := ⟨rfl, rfl, rfl, by decide +kernel, rfl, by decide +kernel, by decide +kernel⟩
def spCDu (K : PySem.W.Frag) (CC : Addr) : Sp := fun vs H Q _ => ∃ (x : Addr) (a : CoAd) (zs : List Str) (F : List Int) (D : Md) (n : Nat), vs = [.ref x] ∧ CourseAt K CC H x a zs F D n ∧ zs.Nodup ∧ zs.length ≤ 12 ∧
  ∀ d H', Same H H' → H d = none → DuesU K H' d zs (duesM (bkOf zs D)) → Q (.ref d) H'
theorem ok_cDu {f CC : Addr} {fd : FuncData} (Fn : Fun K "dues" "Course.dues" sCDu f fd) (TC : ClsC K CC) (B : Blt mg) : FnOk P w K mg base CX0 1 f fd ["self"] (spCDu K CC) := by
  refine Fn.ok scCDu (fun vs H Q E h => ?_) (fun cdv A outer s H vs Q E hr h => ?_)
  · obtain ⟨_, _, _, _, _, _, rfl, _⟩ := h
    rfl
  · obtain ⟨x, a, zs, F, D, n, rfl, co, nd, l12, q⟩ := h
    refine ⟨_, pss_one (ps_ret (pe_lock (pe_dc (own := [("who", 1), ("heap", 2)]) (g := gTup K 2 (gCons (gName 1) (gCons (gName 2) gNil))) (tt := tYes) rfl scCDu.nd (pi_items (pe_fld (pv 0) rfl)) (blkOk_by (N := nCDu) (sc := defScope sCDu) (own := [("who", 1), ("heap", 2)]) (by decide +kernel))
      (fun _ _ _ _ _ => pg_tup rfl (pgs_cons (pg_name (i := 1) scCDu.nd rfl (.inl rfl) (hf := .inr rfl)) (pgs_cons (pg_name (i := 2) scCDu.nd rfl (.inl rfl) (hf := .inr rfl)) pgs_nil))) (fun _ _ _ _ _ => pts_nil) (fun _ _ _ _ _ => pv 1)
      (fun _ _ _ _ _ => pe_ifExp (pt_cmpR op_gt (pe_callB (call_lenS (K := K) rfl) (by rfl) B.len PySem.boot_len (pa_cons (pv 2) pa_nil)) pe_int (nomark _)) (pe_ix (ix_listS (K := K) rfl) (pv 2) pe_int (fun _ _ => rfl)) pe_non)))), ?_⟩
    obtain ⟨dx, hx⟩ := co.hx
    obtain ⟨hs, hh, lh, hrow⟩ := co.hh
    obtain ⟨xh, xp, xs', xt⟩ := co.foot hx (by intro ys z; cases z) (by intro ks z; cases z)
    refine ⟨a.h, _, hh, trivial, fun od => ?_⟩
    have hL : upd H a.h (.frz od (.dK (dct zs (hs.map V.ref)))) a.h = some (.frz od (.dK (dct zs (hs.map V.ref)))) := upd_same
    have hxL : upd H a.h (.frz od (.dK (dct zs (hs.map V.ref)))) x = some (.ins CC dx (cf a)) := (upd_ne xh).trans hx
    have un : ∀ H', Same (upd H a.h (.frz od (.dK (dct zs (hs.map V.ref))))) H' → Same H (upd H' a.h (.dK (dct zs (hs.map V.ref)))) := fun H' s' => same_unlock hh s'
    have ktL : KT H (upd H a.h (.frz od (.dK (dct zs (hs.map V.ref))))) := kt_upd hh fun z => z
    have rowL : ∀ (i : Nat) (q : Addr) (l : List (Str × Int)) (f : Int), hs[i]? = some q → D.notes[i]? = some l → D.fallen[i]? = some f → ∃ xs, upd H a.h (.frz od (.dK (dct zs (hs.map V.ref)))) q = some (.lst xs) ∧ DtAll K (upd H a.h (.frz od (.dK (dct zs (hs.map V.ref))))) xs (notesD (leftN l f)) := fun i q l f e1 e2 e3 => by
      obtain ⟨_, ys, y1, y2⟩ := hrow i q l f e1 e2 e3
      exact ⟨ys, (upd_ne (co.list y1).1).trans y1, DtAll.keepT ktL _ (tup_notes _) y2⟩
    have frL : ∀ c, upd H a.h (.frz od (.dK (dct zs (hs.map V.ref)))) c = none → H c = none ∧ c ≠ a.h := fun c e => by
      by_cases h : c = a.h
      · rw [h, upd_same] at e
        cases e
      · rw [upd_ne h] at e
        exact ⟨e, h⟩
    generalize upd H a.h (.frz od (.dK (dct zs (hs.map V.ref)))) = HL at hL hxL un rowL frL
    refine ⟨.ref x, rfl, x, CC, dx, _, _, rfl, hxL, TC.cl, TC.n1, cf_h, a.h, od, _, rfl, hL, fun dA nD => ?_⟩
    have lk : (dct zs (hs.map V.ref)).length = zs.length := dct_len (by rw [List.length_map]; exact lh)
    have ldu : (duesM (bkOf zs D)).length = zs.length := by
      unfold duesM
      rw [List.length_map]
      show (D.notes.zip D.fallen).length = _
      rw [List.length_zip, co.ln, co.lf, Nat.min_self]
    refine out_it (walk_items (kvs := dct zs (hs.map V.ref))) (fun i H' => Same HL H' ∧ ∃ vs, H' dA = some (.dK (dct (zs.take i) vs)) ∧ vs.length = i ∧ DtAll K H' vs (((duesM (bkOf zs D)).take i).map dueD)) ⟨same_upd nD, [], upd_same, rfl, .nil⟩ (fun i H' _ hP => hP.1 _ _ hL)
      (fun i y H2' H2 hi hP hY => ?_) (fun H2 hP => ?_)
    · obtain ⟨Tt, x1, x2, rfl, nT, rfl, e1, e2⟩ := hY
      obtain ⟨s2, vs, hD, lv, dv⟩ := hP
      rw [lk] at hi
      have hih : i < hs.length := by omega
      have hin : i < D.notes.length := by rw [co.ln]; exact hi
      have hif : i < D.fallen.length := by rw [co.lf]; exact hi
      have ek : (dct zs (hs.map V.ref))[i]? = some (Sum.inr zs[i], V.ref hs[i]) := by
        unfold dct
        rw [List.getElem?_map, List.getElem?_zip_eq_some (z := (zs[i], V.ref hs[i])) |>.mpr ⟨List.getElem?_eq_getElem hi, show (hs.map V.ref)[i]? = some (V.ref hs[i]) from map_get (List.getElem?_eq_getElem hih)⟩]
        rfl
      have e1' : (dct zs (hs.map V.ref))[i]?.map (fun kv => kV kv.1) = some x1 := e1
      have e2' : (dct zs (hs.map V.ref))[i]?.map Prod.snd = some x2 := e2
      rw [ek] at e1' e2'
      have ex1 : x1 = .str zs[i] := (Option.some.inj e1').symm
      have ex2 : x2 = .ref hs[i] := (Option.some.inj e2').symm
      subst ex1 ex2
      obtain ⟨xs, hq, dq⟩ := rowL i _ _ _ (List.getElem?_eq_getElem hih) (List.getElem?_eq_getElem hin) (List.getElem?_eq_getElem hif)
      have ed : (duesM (bkOf zs D))[i]? = some (leftN D.notes[i] D.fallen[i]).head? := dues_at (M := bkOf zs D) (List.getElem?_eq_getElem hin) (List.getElem?_eq_getElem hif)
      generalize hs[i] = qa at hq nT
      have sT := same_upd (o := .tup [V.str zs[i], V.ref qa]) nT
      have s3 := s2.trans sT
      have hT : upd H2' Tt (.tup [V.str zs[i], V.ref qa]) Tt = some (.tup [V.str zs[i], V.ref qa]) := upd_same
      have hD3 := sT _ _ hD
      have dv3 := DtAll.same sT _ dv
      generalize upd H2' Tt (.tup [V.str zs[i], V.ref qa]) = H3 at s3 hT hD3 dv3
      have fin : ∀ v : V, Dt K H3 v (dueD (leftN D.notes[i] D.fallen[i]).head?) → ∃ (kvs : List (Key × V)) (k : Key), V.str zs[i] = kV k ∧ H3 dA = some (.dK kvs) ∧ kvs.length < sizeLine ∧
          (Same HL (upd H3 dA (.dK (putK kvs k v))) ∧ ∃ vs, upd H3 dA (.dK (putK kvs k v)) dA = some (.dK (dct (zs.take (i + 1)) vs)) ∧ vs.length = i + 1 ∧ DtAll K (upd H3 dA (.dK (putK kvs k v))) vs (((duesM (bkOf zs D)).take (i + 1)).map dueD)) := fun v dvv => by
        have fr : ∀ c o, HL c = some o → upd H3 dA (.dK (putK (dct (zs.take i) vs) (Sum.inr zs[i]) v)) c = some o := fun c o ec => by
          rw [upd_ne (ne_of_none ec nD)]
          exact s3 c o ec
        refine ⟨_, Sum.inr zs[i], rfl, hD3, ?_, fr, ?_⟩
        · rw [dct_len (by rw [lv, List.length_take]; omega), List.length_take]
          show _ < 2 ^ 24
          omega
        · have no : ∀ kv ∈ dct (zs.take i) vs, ¬ kv.1 = (Sum.inr zs[i] : Key) := dct_nokey fun z => by
            obtain ⟨j, hj, e'⟩ := List.getElem_of_mem z
            rw [List.length_take] at hj
            rw [List.getElem_take] at e'
            have := (List.getElem_inj nd).mp e'
            omega
          have kt : KT H3 (upd H3 dA (.dK (putK (dct (zs.take i) vs) (Sum.inr zs[i]) v))) := kt_upd hD3 fun z => z
          refine ⟨vs ++ [v], ?_, by rw [List.length_append, lv]; rfl, ?_⟩
          · rw [upd_same, put_new no, ← dct_snoc (by rw [lv, List.length_take]; omega), ← take_succ hi]
          · have hid : i < (duesM (bkOf zs D)).length := by omega
            rw [take_succ hid, List.map_append]
            refine (DtAll.keepT kt _ (tupDs_map tup_due _) dv3).append (.cons ?_ .nil)
            rw [List.getElem?_eq_getElem hid] at ed
            rw [Option.some.inj ed]
            exact Dt.keepT kt _ (tup_due _) dvv
      have hq3 := s3 _ _ hq
      have dq3 := DtAll.same s3 _ dq
      refine ⟨Tt, _, rfl, .inl (.inl hT), rfl, _, _, rfl, _, _, rfl, rfl, rfl, _, rfl, .ref qa, rfl, qa, _, rfl, .inl (.inl (.inl hq3)), _, _, rfl, rfl, _, rfl, ?_⟩
      cases hl : leftN D.notes[i] D.fallen[i] with
      | nil =>
        rw [hl] at dq3 fin
        cases dq3
        exact iteF (fin .non .non)
      | cons nn t =>
        rw [hl] at dq3 fin
        cases dq3 with
        | cons d1 d2 =>
          rename_i y0 yr
          rw [show decide ((0 : Int) < ((y0 :: yr).length : Int)) = true from decide_eq_true (by rw [List.length_cons]; omega)]
          exact iteT ⟨.ref qa, rfl, qa, _, 0, y0, rfl, rfl, .inl (.inl hq3), atI_nat (j := 0) rfl, fin y0 d1⟩
    · obtain ⟨s2, vs, hD, lv, dv⟩ := hP
      rw [lk, List.take_length] at hD
      rw [lk, ← ldu, List.take_length] at dv
      obtain ⟨nDH, nDa⟩ := frL _ nD
      exact ⟨s2 _ _ hL, q dA _ (un _ s2) nDH ⟨vs, (upd_ne nDa).trans hD, DtAll.keepU (KU.unlock (s2 _ _ hL)) _ (tupDs_map tup_due _) dv⟩⟩
end
end Rc

namespace Rc
open PySem PySem.Spec PyProof.Rows L2 RZ LamX
theorem fallAll_snoc (zs : List Str) (D : Md) (l : List Str) (x : Str) (m : Int) : fallAll zs D (l ++ [x]) m = fellD (fallAll zs D l m) (zs.idxOf x) ((fallAll zs D l m).fallen.getD (zs.idxOf x) 0 + m) := by
  unfold fallAll
  rw [List.foldl_append]
  rfl
theorem DuesAt.getO {K : PySem.W.Frag} {H : Hp} {d : Addr} {zs : List Str} {os : List (Option (Str × Int))} (h : DuesAt K H d zs os) (nd : zs.Nodup) (lo : os.length = zs.length) {z : Str} (hz : z ∈ zs) :
    ∃ v, DGet H d (.str z) (some v) ∧ Dt K H v (dueD (os.getD (zs.idxOf z) none)) := by
  obtain ⟨vs, h1, h2⟩ := h.ex
  have hi : zs.idxOf z < os.length := by
    rw [lo]
    exact List.idxOf_lt_length_of_mem hz
  obtain ⟨v, e1, e2⟩ := h2.get (n := zs.idxOf z) (d := dueD os[zs.idxOf z]) (map_get (List.getElem?_eq_getElem hi))
  refine ⟨v, dget_rd h1 nd (idx_get hz) e1, ?_⟩
  rw [getD_of (List.getElem?_eq_getElem hi)]
  exact e2
theorem RingsAt.len {H H' : Hp} {r : Addr} {as : List Addr} {rs : List (List Str)} (h : RingsAt H H' r as rs) : as.length = rs.length := by
  unfold RingsAt at h
  induction h with
  | nil => rfl
  | cons _ _ ih => simp [ih]
section
variable {P : Program} {w : World} {K : PySem.W.Frag} {mg : Str → Option Value} {base : Heap}
/-! ### clear_one -/
abbrev sCl1 : Stmt := inCourse 3
abbrev nCl1 : List Str := ["self", "dues", "rings", "who", "amount"]
theorem scCl1 : FnScope nCl1 ["self", "dues"] (defScope sCl1) := ⟨rfl, rfl, rfl, by decide +kernel, rfl, by decide +kernel, by decide +kernel⟩
def spCl1 (K : PySem.W.Frag) (CC : Addr) : Sp := fun vs H Q _ => ∃ (x d : Addr) (a : CoAd) (zs : List Str) (F : List Int) (D : Md) (n : Nat), vs = [.ref x, .ref d] ∧ CourseAt K CC H x a zs F D n ∧ Gs zs D ∧ Gb D ∧ DuesU K H d zs (duesM (bkOf zs D)) ∧ n ≤ 9000 ∧
  (∀ H', Same H H' → (∀ z ∈ zs, ringM zs (nxD zs D) z = none) → Q (.bl false) H') ∧
  ∀ E H', ButC a H H' → CourseAt K CC H' x a zs F E (n + 1) → Gs zs E → Gb E → E.given = D.given → E.notes = D.notes → turnsM zs E < turnsM zs D → Q (.bl true) H'
theorem ok_cl1 {f f1 f2 CC : Addr} {fd fd1 fd2 : FuncData} (Fn : Fun K "clear_one" "Course.clear_one" sCl1 f fd) (TC : ClsC K CC) (B : Blt mg) (B2 : Blt2 mg) (RS : Has P w K mg base 3 "rings_by" ["dues"] (spRgS K) f1 fd1)
    (SK : HasM P w K mg base CC 1 "sink" ["self", "who", "amount"] (spSink K CC) f2 fd2) : FnOk P w K mg base CX0 4 f fd ["self", "dues"] (spCl1 K CC) := by
  refine Fn.ok scCl1 (fun vs H Q E h => ?_) (fun cdv A outer s H vs Q E hr h => ?_)
  · obtain ⟨_, _, _, _, _, _, _, rfl, _⟩ := h
    rfl
  · obtain ⟨x, d, a, zs, F, D, n, rfl, co, g, gb, hd, n9, qN, qY⟩ := h
    have hu := hu_of hr
    have hr1 := hr.mono (show 1 ≤ 3 by decide)
    have wk := g.walks
    have nd := g.nz.nd
    refine ⟨_, pss_cons (ps_set (i := 2) scCl1.nd rfl (.inl rfl) (pe_call RS.ok hr (by rfl) RS.g RS.kp RS.b .nil pass0 (pa_cons (pv 1) pa_nil)))
      (pss_cons (ps_if (pt_cmpR op_eq (pe_callB call_len_seq (by rfl) B.len PySem.boot_len (pa_cons (pv 2) pa_nil)) pe_int (nomark _)) (pss_one (ps_ret pe_bl)) pss_nil)
      (pss_cons (ps_set (i := 4) scCl1.nd rfl (.inl rfl) (pe_callB (cr_min rfl) (by rfl) B2.min (by decide +kernel) (pa_cons
        (pe_lc (own := [("who", 3)]) (g := gName 3) (tt := tYes) rfl scCl1.nd (pi_list (pe_ix ix_list (pv 2) pe_int (fun _ _ => rfl))) (blkOk_by (N := nCl1) (sc := defScope sCl1) (own := [("who", 3)]) (by decide +kernel))
          (fun _ _ _ _ _ => pg_name (i := 3) scCl1.nd rfl (.inl rfl) (hf := .inr rfl)) (fun _ _ _ _ _ => pts_nil)
          (fun _ _ _ _ _ => pe_ix (ix_tupS (K := K) rfl) (pe_dget hu (pv 1) (pv 3) (fun _ _ => rfl)) pe_int (fun _ _ => rfl))) pa_nil)))
      (pss_cons (ps_for PassesOwn.never rfl (pi_list (pe_ix ix_list (pv 2) pe_int (fun _ _ => rfl))) (pg_name (i := 3) scCl1.nd rfl (.inl rfl))
        (pss_one (ps_expr (pe_meth (pv 0) TC.cl SK.m SK.ok hr1 SK.b .nil pass0 (pa_cons (pv 3) (pa_cons (pv 4) pa_nil))))))
      (pss_cons (ps_expr (pe_bm PySem.F.plainAttrs_list PySem.F.slot_list_append PySem.F.type_list_append mt_append (pe_fld (pv 0) rfl) (pa_cons (pe_tup (pa_cons pe_str (pa_cons (pe_ix ix_list (pe_ix ix_list (pv 2) pe_int (fun _ _ => rfl)) pe_int (fun _ _ => rfl)) (pa_cons (pv 4) pa_nil)))) pa_nil)))
      (pss_one (ps_ret pe_bl)))))), ?_⟩
    refine ⟨.ref d, rfl, d, zs, _, rfl, hd, wk, fun rA as H1 s1 nrA hrA ras => ?_⟩
    have lras : as.length = (ringsM zs (nxD zs D) zs).length := ras.len
    refine ⟨.ref rA, rfl, rA, _, rfl, .inl (.inl (.inl hrA)), rfl, _, rfl, ?_⟩
    cases as with
    | nil =>
      refine iteT (qN H1 s1 (no_rings wk.ld fun z hz r hR hh => ?_))
      have hm : r ∈ ringsM zs (nxD zs D) zs := List.mem_filterMap.mpr ⟨z, hz, by
        unfold ringAt
        rw [hR]
        exact if_pos hh⟩
      rw [List.length_nil] at lras
      rw [List.eq_nil_of_length_eq_zero lras.symm] at hm
      cases hm
    | cons a0 as =>
      rw [show decide (V.int ((List.map V.ref (a0 :: as)).length : Int) = V.int 0) = false from decide_eq_false (fun c => by
        have := V.int.inj c
        rw [List.length_map, List.length_cons] at this
        omega)]
      refine iteF ?_
      cases hrs : ringsM zs (nxD zs D) zs with
      | nil =>
        rw [hrs] at lras
        cases lras
      | cons r rs =>
        have rasE : RingsAt H H1 rA (a0 :: as) (r :: rs) := by
          rw [← hrs]
          exact ras
        obtain ⟨na0, na0r, ha0⟩ : H a0 = none ∧ a0 ≠ rA ∧ H1 a0 = some (.lst (r.map V.str)) := by
          cases rasE with
          | cons h _ => exact h
        obtain ⟨z, hz, hzr⟩ := List.mem_filterMap.mp (show r ∈ ringsM zs (nxD zs D) zs by rw [hrs]; exact List.mem_cons_self)
        have hR : ringM zs (nxD zs D) z = some r := by
          unfold ringAt at hzr
          split at hzr
          · rename_i r' hr'
            split at hzr
            · rw [hr', Option.some.inj hzr]
            · cases hzr
          · cases hzr
        obtain ⟨rne, rl12, rdue⟩ := ring_least g.ok g.closed hz hR
        obtain ⟨_, rnd, rsub, _⟩ := ring_perm wk.ld hz hR
        have h0 : (0 : Nat) < (a0 :: as).length := Nat.succ_pos _
        -- amount
        refine ⟨.ref rA, rfl, rA, _, 0, .ref a0, rfl, rfl, .inl (.inl hrA), atI_nat (j := 0) rfl, a0, rfl, ⟨_, .inl (.inl ha0)⟩, fun D0 nD0 => ?_⟩
        refine lc_it (walk_list (K := K) (a := a0) (xs := r.map V.str)) (fun i H' => Same H1 H' ∧ H' D0 = some (.lst (((r.take i).map (amtAt zs (duesM (bkOf zs D)))).map V.int))) ⟨same_upd nD0, upd_same⟩ (fun i H' _ hP => .inl (.inl (hP.1 _ _ ha0)))
          (fun i y H2' H2 hi hP hY => ?_) (fun H2 hP => ?_)
        · obtain ⟨rfl, hy⟩ := hY
          rw [List.length_map] at hi
          have eyy : y = .str r[i] := by
            rw [List.getElem?_map, List.getElem?_eq_getElem hi] at hy
            exact (Option.some.inj hy).symm
          subst eyy
          obtain ⟨hyz, x2, hx2⟩ := rdue _ (List.getElem_mem hi)
          obtain ⟨v, gv, dv⟩ := ((hd.same (s1.trans hP.1)).at).getO nd wk.lo hyz
          have hx3 : ((duesM (bkOf zs D)).getD (zs.idxOf r[i]) none).map (·.1) = some x2 := hx2
          refine ⟨rfl, .ref d, rfl, _, rfl, d, v, rfl, gv, ?_⟩
          rcases due_inv dv with ⟨eo, _⟩ | ⟨nn, ta, eo, rfl, qt⟩
          · rw [eo] at hx3
            cases hx3
          · have ea : amtAt zs (duesM (bkOf zs D)) r[i] = nn.2 := by
              unfold amtAt
              rw [eo]
            refine ⟨ta, _, 1, .int nn.2, rfl, rfl, qt, rfl, _, hP.2, ?_, fun c o ec => ?_, ?_⟩
            · rw [List.length_map, List.length_map, List.length_take]
              exact small1000 (by omega)
            · rw [upd_ne (ne_of_none ec nD0)]
              exact hP.1 c o ec
            · rw [upd_same, take_succ hi, List.map_append, List.map_append, ← ea]
              rfl
        · obtain ⟨s2, hD0⟩ := hP
          rw [List.length_map, List.take_length] at hD0
          refine ⟨D0, _, rfl, .inl (.inl hD0), by rw [List.length_map]; exact List.length_pos_iff.mpr rne, fun mn h1 h2 => ?_⟩
          rw [least_uniq h1 h2]
          clear h1 h2 mn
          obtain ⟨p1, _, p2⟩ := ring_pos g hz hR
          rw [p2] at p1
          obtain ⟨gE, gbE, tE⟩ := clear_less g gb hz hR p1
          have du0 := ring_duesOf g hz hR (Int.le_refl (leastI (r.map (amtAt zs (duesM (bkOf zs D))))))
          generalize leastI (r.map (amtAt zs (duesM (bkOf zs D)))) = m at p1 gE gbE tE du0
          have s02 := s1.trans s2
          have hrA2 := s2 _ _ hrA
          have ha2 := s2 _ _ ha0
          have co2 := co.same (ExtN.of s02)
          obtain ⟨frh, frp, frs, frt⟩ := co.fresh nrA
          obtain ⟨fah, fap, fas, fat⟩ := co.fresh na0
          clear hD0 nD0 s1 s2 ha0 hrA
          -- each sinks
          refine ⟨.ref rA, rfl, rA, _, 0, .ref a0, rfl, rfl, .inl (.inl hrA2), atI_nat (j := 0) rfl, a0, rfl, ⟨_, .inl (.inl ha2)⟩, ?_⟩
          refine for_it (walk_list (K := K) (a := a0) (xs := r.map V.str)) (fun i σ H' => ∃ y3, σ = [some (.ref x), some (.ref d), some (.ref rA), y3, some (.int m)] ∧ ButC a H2 H' ∧ CourseAt K CC H' x a zs F (fallAll zs D (r.take i) m) n ∧ DuesOf zs (fallAll zs D (r.take i) m) (nxD zs D) m (r.drop i))
            ⟨_, rfl, ButC.of (Same.refl _), co2, du0⟩ (fun i σ H' _ hP => ?_) (fun i y σ H3' H3 hi hP hY => ?_) (fun σ H3 hP => ?_)
          · obtain ⟨_, _, b3, _⟩ := hP
            exact .inl (.inl (b3 _ _ fah fap fas fat ha2))
          · obtain ⟨rfl, hy⟩ := hY
            obtain ⟨y3, rfl, b3, co3, du3⟩ := hP
            rw [List.length_map] at hi
            have eyy : y = .str r[i] := by
              rw [List.getElem?_map, List.getElem?_eq_getElem hi] at hy
              exact (Option.some.inj hy).symm
            subst eyy
            have edr : r.drop i = r[i] :: r.drop (i + 1) := List.drop_eq_getElem_cons hi
            rw [edr] at du3
            obtain ⟨l, f, t, b, rest, el, ef, hn, f0, eL, mb, ex⟩ := du3 _ List.mem_cons_self
            have hyz : r[i] ∈ zs := rsub _ (List.getElem_mem hi)
            obtain ⟨dx, hx3⟩ := co3.hx
            have eln : l ∈ D.notes := by
              have := List.mem_of_getElem? el
              rw [(fallAll_keeps zs m (r.take i) D).2.1] at this
              exact this
            have ll := g.rows l eln
            refine ⟨.ref x, rfl, x, dx, _, rfl, hx3, cf_no (NoFC.mk' (by decide +kernel)), _, rfl, .int m, rfl, x, a, zs, F, _, n, zs.idxOf r[i], r[i], t, m, f, b, l, rest, rfl, co3, nd, g.nz.n1, idx_get hyz, el, ef, by omega, hn, f0, eL, by omega, mb, wk.ld _ _ ex, fun H4 b4 co4 => ?_⟩
            have tk : fallAll zs D (r.take (i + 1)) m = fellD (fallAll zs D (r.take i) m) (zs.idxOf r[i]) (f + m) := by
              rw [take_succ hi, fallAll_snoc, getD_of ef]
            refine ⟨_, rfl, b3.trans b4, by rw [tk]; exact co4, ?_⟩
            rw [tk]
            exact du3.tail (by rw [← edr]; exact rnd.sublist (List.drop_sublist _ _)) (fun y hy => rsub y (List.mem_of_mem_drop (by rw [edr]; exact hy)))
          · obtain ⟨y3, rfl, b3, co3, _⟩ := hP
            rw [List.length_map, List.take_length] at co3
            obtain ⟨dx, hx3⟩ := co3.hx
            obtain ⟨ts, ht3, lt3⟩ := co3.ht
            have hrA3 := b3 _ _ frh frp frs frt hrA2
            have ha3 := b3 _ _ fah fap fas fat ha2
            cases r with
            | nil => exact absurd rfl rne
            | cons r0 r =>
              refine ⟨.ref x, rfl, x, CC, dx, _, _, rfl, hx3, TC.cl, TC.n4, cf_t, .inl ⟨rfl, _, .inl (.inl ht3)⟩, .ref rA, rfl, rA, _, 0, .ref a0, rfl, rfl, .inl (.inl hrA3), atI_nat (j := 0) rfl, a0, _, 0, .str r0, rfl, rfl, .inl (.inl ha3), atI_nat (j := 0) rfl, .int m, rfl, by show 3 ≤ sizeLine; decide, fun p np => ⟨a.t, ts, _, rfl, rfl, same_upd np _ _ ht3, by show _ < 2 ^ 24; omega, ?_⟩⟩
              have co4 := co3.same (ExtN.of (same_upd (o := .tup [V.str "clear", V.str r0, V.int m]) np))
              have sp := same_upd (o := .tup [V.str "clear", V.str r0, V.int m]) np
              generalize upd H3 p (.tup [V.str "clear", V.str r0, V.int m]) = H4 at co4 sp
              have b5 : ButC a H (upd H4 a.t (.lst (ts ++ [V.ref p]))) := fun c o n1 n2 n3 n4 e => by
                rw [upd_ne n4]
                exact sp _ _ (b3 c o n1 n2 n3 n4 (s02 _ _ e))
              refine qY _ _ b5 (co4.step (ts := ts) (sp _ _ ht3) lt3 _) gE gbE (fallAll_keeps zs m _ D).1 (fallAll_keeps zs m _ D).2.1 tE
end
end Rc

namespace Rc
open PySem PySem.Spec PyProof.Rows L2 RZ LamX
/-- a def whose code object is known -/
theorem Fun.okC {P : Program} {w : World} {K : PySem.W.Frag} {mg : Str → Option Value} {base : Heap} {x qual : Str} {st : Stmt} {f c : Addr} {fd : FuncData} {N ps : List Str} {k : Nat} {sp : Sp} (F : Fun K x qual st f fd) (hc : fd.code = .ref c) (S : FnScope N ps (defScope st)) (len : ∀ vs H Q E, sp vs H Q E → vs.length = ps.length)
    (hbody : ∀ (A : Around) (outer : List Env) (s : Shared) (H : Hp) (vs : List V) (Q : VK) (E : XK), Room k (A.deeper (envOfC qual (defScope st) s.heap.objs.size f (.ref c))) → sp vs H Q E →
      ∃ t, PSs (cxOf CX0 P w K mg base N qual (defScope st) f (.ref c) A outer s H E).nox (defBody st) t ∧ t { nx := fun _ H' => Q .non H', rt := Q } (start N vs) H) : FnOk P w K mg base CX0 (k + 1) f fd ps sp := by
  obtain ⟨oc, od, kV, doc, pm, an, cdv, ct, osl, rfl, lk, hcd⟩ := F.ex
  have hc : cdv = .ref c := hc
  subst hc
  refine fn_of lk hcd S len fun A outer s H vs Q E hr hsp => ?_
  obtain ⟨t, h, q⟩ := hbody A outer s H vs Q E hr hsp
  exact ⟨t, h.nox, q⟩
/-- all but what a course changes, and the tables -/
def ButN (a : CoAd) (H H' : Hp) : Prop := ∀ c o, c ≠ a.h → c ≠ a.p → c ≠ a.s → c ≠ a.t → (∀ ps, o ≠ .tbl ps) → H c = some o → H' c = some o
theorem ButN.of {a : CoAd} {H H' : Hp} (b : ButC a H H') : ButN a H H' := fun c o n1 n2 n3 n4 _ e => b c o n1 n2 n3 n4 e
theorem ButN.ext {a : CoAd} {H H' : Hp} (b : ExtN H H') : ButN a H H' := fun c o _ _ _ _ n e => b c o e n
theorem ButN.trans {a : CoAd} {H H1 H2 : Hp} (x : ButN a H H1) (y : ButN a H1 H2) : ButN a H H2 := fun c o n1 n2 n3 n4 t e => y c o n1 n2 n3 n4 t (x c o n1 n2 n3 n4 t e)
theorem ext_kt {H H' : Hp} (s : ExtN H H') : KT H H' := fun c o e t => s c o e fun ps z => by rw [z] at t; exact t
theorem DuesU.ext {K : PySem.W.Frag} {H H' : Hp} {d : Addr} {zs : List Str} {os : List (Option (Str × Int))} (h : DuesU K H d zs os) (s : ExtN H H') : DuesU K H' d zs os := by
  obtain ⟨vs, h1, h2⟩ := h.ex
  exact ⟨vs, s _ _ h1 (fun ps z => by cases z), DtAll.keepT (ext_kt s) _ (tupDs_map tup_due _) h2⟩
section
variable {K : PySem.W.Frag} {C : Addr} {H H' : Hp} {x : Addr} {a : CoAd} {zs : List Str} {F : List Int} {D : Md} {n : Nat}
theorem Tabs.butC {T : List (Addr × Str)} (t : Tabs T H) (h : CourseAt K C H x a zs F D n) (b : ButC a H H') : Tabs T H' := fun p hp => by
  obtain ⟨ps, h1, h2, h3⟩ := t p hp
  have k : ∀ {c : Addr} {o : HO}, H c = some o → (∀ ys, o ≠ .lst ys) → (∀ ks, o ≠ .dK ks) → H' c = some o := fun {c o} e nl nk => by
    obtain ⟨n1, n2, n3, n4⟩ := h.foot e nl nk
    exact b c o n1 n2 n3 n4 e
  refine ⟨ps, k h1 (by intro ys z; cases z) (by intro ys z; cases z), h2, fun pos cv hc => ?_⟩
  obtain ⟨c, e1, e2⟩ := h3 pos cv hc
  refine ⟨c, e1, k e2 (fun ys z => ?_) (fun ys z => ?_)⟩ <;> (unfold CodeO at z; cases z)
/-- the dues are no part of a course -/
theorem CourseAt.dues (h : CourseAt K C H x a zs F D n) (ne : zs ≠ []) {d : Addr} {os : List (Option (Str × Int))} (hd : DuesU K H d zs os) (lo : os.length = zs.length) : d ≠ x ∧ d ≠ a.p := by
  obtain ⟨vs, h1, h2⟩ := hd.ex
  obtain ⟨dx, hx⟩ := h.hx
  refine ⟨fun z => ?_, fun z => ?_⟩
  · rw [z, hx] at h1
    cases h1
  · rw [z, h.hp] at h1
    have e := HO.dK.inj (Option.some.inj h1)
    cases zs with
    | nil => exact ne rfl
    | cons z0 zr =>
      cases os with
      | nil => cases lo
      | cons o0 os =>
        cases h2 with
        | cons q r =>
          unfold dct at e
          simp only [List.map_cons, List.zip_cons_cons] at e
          have e2 := (Prod.mk.inj (List.cons.inj e).1).2
          rw [← e2] at q
          cases o0 <;> cases q
end
theorem pe_fldK {X : Cx} {K : PySem.W.Frag} {e : Expr} {ta : TE} {f : Str} {pos : Pos} (eK : X.K = K) (he : PE X e ta) (hb : attributeBase e f X.env (eval e X.env) = eval e X.env) : PE X (.Attribute e f pos) (tFld K ta f) := by
  subst eK
  exact pe_fld he hb
section
variable {P : Program} {w : World} {K : PySem.W.Frag} {mg : Str → Option Value} {base : Heap}
/-! ### pay_one -/
abbrev sPy1 : Stmt := inCourse 4
abbrev nPy1 : List Str := ["self", "dues", "payers", "who", "amount", "one"]
theorem scPy1 : FnScope nPy1 ["self", "dues"] (defScope sPy1) := ⟨rfl, rfl, rfl, by decide +kernel, rfl, by decide +kernel, by decide +kernel⟩
/-- the lambda's name -/
def qLam : Str := ("Course.pay_one" : Str) ++ ".<locals>." ++ "<lambda>"
def canPay (zs : List Str) (D : Md) (z : Str) : Bool := decide (0 < mostP (bkOf zs D) (zs.idxOf z) z)
def spPy1 (K : PySem.W.Frag) (CC : Addr) (T : List (Addr × Str)) : Sp := fun vs H Q _ => ∃ (x d : Addr) (a : CoAd) (zs : List Str) (F : List Int) (D : Md) (n : Nat), vs = [.ref x, .ref d] ∧ CourseAt K CC H x a zs F D n ∧ Gs zs D ∧ Gb D ∧ DuesU K H d zs (duesM (bkOf zs D)) ∧ n ≤ 9000 ∧ Tabs T H ∧ (∀ z ∈ zs, ringM zs (nxD zs D) z = none) ∧
  (∀ H', Same H H' → (∀ z ∈ zs, mostP (bkOf zs D) (zs.idxOf z) z = 0) → Q (.bl false) H') ∧
  ∀ E H', ButN a H H' → Tabs T H' → CourseAt K CC H' x a zs F E (n + 1) → Gs zs E → Gb E → E.given = D.given → E.notes = D.notes → turnsM zs E < turnsM zs D → Q (.bl true) H'
theorem ok_py1 {f f1 f2 CC c PT : Addr} {fd fd1 fd2 : FuncData} {T : List (Addr × Str)} (Fn : Fun K "pay_one" "Course.pay_one" sPy1 f fd) (hcd : fd.code = .ref c) (TB : TabB base mg c PT) (hmT : (PT, qLam) ∈ T) (hu' : ∀ p ∈ T, p.1 = PT → p.2 = qLam) (TC : ClsC K CC) (B : Blt mg) (B2 : Blt2 mg) (TR : Has P w K mg base 1 "trail_by" ["dues", "who"] (spTrB K) f1 fd1)
    (SK : HasM P w K mg base CC 1 "sink" ["self", "who", "amount"] (spSink K CC) f2 fd2) : FnOk P w K mg base CX0 4 f fd ["self", "dues"] (spPy1 K CC T) := by
  refine Fun.okC Fn hcd scPy1 (fun vs H Q E h => ?_) (fun A outer s H vs Q E hr h => ?_)
  · obtain ⟨_, _, _, _, _, _, _, rfl, _⟩ := h
    rfl
  · obtain ⟨x, d, a, zs, F, D, n, rfl, co, g, gb, hd, n9, tT, nr, qN, qY⟩ := h
    have hu := hu_of hr
    have hr1 := hr.mono (show 1 ≤ 3 by decide)
    have wk := g.walks
    have nd := g.nz.nd
    refine ⟨_, pss_cons (ps_lock (ps_setLc (i := 2) (own := [("who", 3)]) (g := gName 3) rfl scPy1.nd rfl rfl (sw_true rfl rfl rfl (by decide +kernel)) (pi_keys (pv 1)) (blkOk_by (N := nPy1) (sc := defScope sPy1) (own := [("who", 3)]) (by decide +kernel))
        (fun _ _ _ _ _ => pg_name (i := 3) scPy1.nd rfl (.inl rfl) (hf := .inr rfl))
        (fun _ _ _ _ _ => pts_one (PW.pt (pw_and (pt_cmpR op_notN (pe_dget hu (pv 1) (pv 3) (fun _ _ => rfl)) pe_non (nomark _)) (pw_and1 (pt_cmpR op_gt (pe_dget hu (pe_fldK (K := K) rfl (pv 0) rfl) (pv 3) (fun _ _ => rfl)) pe_int (nomark _))))))
        (fun _ _ _ _ _ => pv 3)))
      (pss_cons (ps_if (pt_cmpR op_eq (pe_callB call_len_seq (by rfl) B.len PySem.boot_len (pa_cons (pv 2) pa_nil)) pe_int (nomark _)) (pss_one (ps_ret pe_bl)) pss_nil)
      (pss_cons (ps_set (i := 3) scPy1.nd rfl (.inl rfl) (pe_maxlam (T := T) (k := 1) (io := 5) (x := "one") rfl (by rfl) B2.max (pa_cons (pv 2) pa_nil) TB rfl hmT hu' hr (show LamS1 (defScope sPy1) _ _ from ⟨rfl, rfl, rfl, by decide +kernel, rfl, by decide +kernel⟩) scPy1.nd rfl rfl (fun _ _ _ _ _ _ => rfl)
        (fun A s H f c' hrL => pe_callB (call_lenS (K := K) rfl) (by rfl) B.len PySem.boot_len (pa_cons (pe_call TR.ok hrL (by rfl) TR.g TR.kp TR.b .nil pass0 (pa_cons (pv 1) (pa_cons (pv 5) pa_nil))) pa_nil))))
      (pss_cons (ps_set (i := 4) scPy1.nd rfl (.inl rfl) (pe_callB (call_min2 rfl) (by rfl) B2.min (by decide +kernel) (pa_cons (pe_ix ix_tup (pe_dget hu (pv 1) (pv 3) (fun _ _ => rfl)) pe_int (fun _ _ => rfl)) (pa_cons (pe_dget hu (pe_fld (pv 0) rfl) (pv 3) (fun _ _ => rfl)) pa_nil))))
      (pss_cons (ps_expr (pe_meth (pv 0) TC.cl SK.m SK.ok hr1 SK.b .nil pass0 (pa_cons (pv 3) (pa_cons (pv 4) pa_nil))))
      (pss_cons (ps_expr (pe_bm PySem.F.plainAttrs_list PySem.F.slot_list_append PySem.F.type_list_append mt_append (pe_fld (pv 0) rfl) (pa_cons (pe_tup (pa_cons pe_str (pa_cons (pv 3) (pa_cons (pv 4) pa_nil)))) pa_nil)))
      (pss_one (ps_ret pe_bl))))))), ?_⟩
    obtain ⟨vs, hdv, dvs⟩ := hd.ex
    have lv : vs.length = zs.length := by rw [dvs.len, List.length_map, wk.lo]
    have lk : (dct zs vs).length = zs.length := dct_len lv
    obtain ⟨dx, hx⟩ := co.hx
    have zne : zs ≠ [] := fun c => by
      have := g.nz.n0
      rw [c] at this
      cases this
    obtain ⟨ndx, ndp⟩ := co.dues zne hd wk.lo
    refine ⟨d, _, hdv, trivial, fun od => ?_⟩
    have hdL : upd H d (.frz od (.dK (dct zs vs))) d = some (.frz od (.dK (dct zs vs))) := upd_same
    have hxL : upd H d (.frz od (.dK (dct zs vs))) x = some (.ins CC dx (cf a)) := (upd_ne ndx.symm).trans hx
    have hpL : upd H d (.frz od (.dK (dct zs vs))) a.p = some (.dK (dct zs ((zs.map (cashY zs D)).map V.int))) := (upd_ne ndp.symm).trans co.hp
    have dvL : DtAll K (upd H d (.frz od (.dK (dct zs vs)))) vs ((duesM (bkOf zs D)).map dueD) := DtAll.keepT (kt_upd hdv fun z => z) _ (tupDs_map tup_due _) dvs
    have un : ∀ H', Same (upd H d (.frz od (.dK (dct zs vs)))) H' → Same H (upd H' d (.dK (dct zs vs))) := fun H' s' => same_unlock hdv s'
    generalize upd H d (.frz od (.dK (dct zs vs))) = HL at hdL hxL hpL dvL un
    refine ⟨.ref d, rfl, d, od, rfl, .inl ⟨_, hdL, fun D0 nD0 => ?_⟩⟩
    refine lc_it (walk_keys (kvs := dct zs vs)) (fun i H' => Same HL H' ∧ H' D0 = some (.lst (((zs.take i).filter (canPay zs D)).map V.str))) ⟨same_upd nD0, upd_same⟩ (fun i H' _ hP => hP.1 _ _ hdL)
      (fun i y H2' H2 hi hP hY => ?_) (fun H2 hP => ?_)
    · obtain ⟨rfl, k, v, ek, rfl⟩ := hY
      obtain ⟨s2, hD2⟩ := hP
      rw [lk] at hi
      have hiv : i < vs.length := by omega
      have ek2 : (dct zs vs)[i]? = some (Sum.inr zs[i], vs[i]) := by
        unfold dct
        rw [List.getElem?_map, List.getElem?_zip_eq_some (z := (zs[i], vs[i])) |>.mpr ⟨List.getElem?_eq_getElem hi, List.getElem?_eq_getElem hiv⟩]
        rfl
      rw [ek2] at ek
      cases ek
      have hz : zs[i] ∈ zs := List.getElem_mem hi
      have tk := take_succ hi
      generalize zs[i] = z at hz tk
      have s2' := s2
      obtain ⟨v, gv, dv⟩ := (DuesAt.same ⟨vs, .inr ⟨od, hdL⟩, dvL⟩ s2).getO nd wk.lo hz
      have no : canPay zs D z = false → Same HL H2 ∧ H2 D0 = some (.lst (((zs.take (i + 1)).filter (canPay zs D)).map V.str)) := fun e => ⟨s2, by rw [hD2, tk, List.filter_append]; simp [e]⟩
      refine ⟨rfl, .ref d, rfl, .str z, rfl, d, v, rfl, gv, rfl, _, rfl, ?_⟩
      rcases due_inv dv with ⟨eo, rfl⟩ | ⟨nn, ta, eo, rfl, qt⟩
      · rw [decide_eq_true rfl]
        refine iteF (iteF (no ?_))
        unfold canPay
        rw [mostP_none eo]
        rfl
      · rw [decide_eq_false (fun c => by cases c)]
        have gn : 1 ≤ nn.2 ∧ nn.2 ≤ 10 ^ 58 := (g.due (getD_mem eo)).2
        refine iteT ⟨.ref x, rfl, x, CC, dx, _, _, rfl, s2 _ _ hxL, TC.cl, TC.n2, cf_p, .str z, rfl, a.p, _, rfl, dget_rd (.inl (s2 _ _ hpL)) nd (idx_get hz) (map_get (map_get (idx_get hz))), _, _, rfl, rfl, _, rfl, ?_⟩
        have eM := mostP_some (z := z) eo
        have ec : cashY zs D z = cashM (bkOf zs D) (zs.idxOf z) z := rfl
        by_cases hc : (0 : Int) < cashY zs D z
        · have hp : canPay zs D z = true := by
            unfold canPay
            rw [eM]
            refine decide_eq_true ?_
            split <;> omega
          rw [show decide ((0 : Int) < cashY zs D z) = true from decide_eq_true hc]
          refine iteT ⟨_, rfl, _, hD2, ?_, fun c o ec => ?_, ?_⟩
          · rw [List.length_map]
            have h1 := List.length_filter_le (canPay zs D) (zs.take i)
            have h2 : (zs.take i).length ≤ zs.length := by
              rw [List.length_take]
              omega
            have := wk.lz
            exact small1000 (by omega)
          · rw [upd_ne (ne_of_none ec nD0)]
            exact s2 c o ec
          · rw [upd_same, tk, List.filter_append, List.map_append]
            simp [hp]
            rfl
        · rw [show decide ((0 : Int) < cashY zs D z) = false from decide_eq_false hc]
          refine iteF (no ?_)
          unfold canPay
          rw [eM]
          refine decide_eq_false ?_
          split <;> omega
    · obtain ⟨s2, hD2⟩ := hP
      rw [lk, List.take_length] at hD2
      have s3 := un _ s2
      have dD : D0 ≠ d := (ne_of_none hdL nD0).symm
      have hD3 : upd H2 d (.dK (dct zs vs)) D0 = some (.lst ((zs.filter (canPay zs D)).map V.str)) := by
        rw [upd_ne dD]
        exact hD2
      refine ⟨s2 _ _ hdL, ?_⟩
      generalize upd H2 d (.dK (dct zs vs)) = H3 at s3 hD3
      have memP : ∀ z ∈ zs.filter (canPay zs D), z ∈ zs ∧ 0 < mostP (bkOf zs D) (zs.idxOf z) z := fun z hz => by
        obtain ⟨h1, h2⟩ := List.mem_filter.mp hz
        unfold canPay at h2
        exact ⟨h1, of_decide_eq_true h2⟩
      refine ⟨.ref D0, rfl, D0, _, rfl, .inl (.inl (.inl hD3)), rfl, _, rfl, ?_⟩
      generalize hps : zs.filter (canPay zs D) = ps at hD3 memP
      cases ps with
      | nil =>
        refine iteT (qN H3 s3 fun z hz => ?_)
        have : z ∉ zs.filter (canPay zs D) := by
          rw [hps]
          exact List.not_mem_nil
        have np : ¬ 0 < mostP (bkOf zs D) (zs.idxOf z) z := fun c => this (List.mem_filter.mpr ⟨hz, decide_eq_true c⟩)
        have p0 : 0 ≤ mostP (bkOf zs D) (zs.idxOf z) z := by
          cases h : (duesM (bkOf zs D)).getD (zs.idxOf z) none with
          | none =>
            rw [mostP_none h]
            exact Int.le_refl _
          | some nn =>
            have gn : 1 ≤ nn.2 ∧ nn.2 ≤ 10 ^ 58 := (g.due (getD_mem h)).2
            have c0 := g.cs _ _ (idx_get hz)
            rw [mostP_some h]
            split <;> omega
        omega
      | cons z0 ps =>
        rw [show decide (V.int ((List.map V.str (z0 :: ps)).length : Int) = V.int 0) = false from decide_eq_false (fun c => by
          have := V.int.inj c
          rw [List.length_map, List.length_cons] at this
          omega)]
        refine iteF ⟨.ref D0, rfl, D0, _, fun i => ((trailM zs (nxD zs D) ((z0 :: ps).getD i Str.empty)).length : Int), rfl, hD3, by simp, tT.ext s3, fun H4 e4 t4 => ⟨fun i y H5 hy s5 => ?_, fun y hy H5 s5 => ?_⟩⟩
        · have hd5 := ((hd.same s3).ext e4).same s5
          rw [List.getElem?_map] at hy
          cases hz : (z0 :: ps)[i]? with
          | none =>
            rw [hz] at hy
            cases hy
          | some z =>
            rw [hz] at hy
            have ey : y = .str z := (Option.some.inj hy).symm
            subst ey
            refine ⟨.ref d, rfl, .str z, rfl, d, z, zs, _, rfl, hd5.at, wk, (memP z (List.mem_of_getElem? hz)).1, fun t H6 s6 nt ht => ⟨t, _, rfl, .inl (.inl (.inl ht)), ?_, s6⟩⟩
            have eg : (z0 :: ps).getD i Str.empty = z := by
              rw [List.getD_eq_getElem?_getD, hz]
              rfl
            show V.int _ = V.int ((trailM zs (nxD zs D) ((z0 :: ps).getD i Str.empty)).length : Int)
            rw [eg, List.length_map]
        · obtain ⟨z, hzp, rfl⟩ := List.mem_map.mp hy
          obtain ⟨hz, pz⟩ := memP z hzp
          have e3 : ExtN H H5 := (ExtN.of s3).trans (e4.trans (ExtN.of s5))
          have t5 := t4.ext s5
          have hd5 := ((hd.same s3).ext e4).same s5
          have co5 := co.same e3
          clear s2 hD2 s3 hD3 un hdL hxL hpL dvL e4 t4 s5
          obtain ⟨v, gv, dv⟩ := hd5.at.getO nd wk.lo hz
          obtain ⟨dx5, hx5⟩ := co5.hx
          rcases due_inv dv with ⟨eo, rfl⟩ | ⟨nn, ta, eo, rfl, qt⟩
          · rw [mostP_none eo] at pz
            exact absurd pz (by omega)
          refine ⟨.ref d, rfl, .str z, rfl, d, _, rfl, gv, ta, _, 1, .int nn.2, rfl, rfl, qt, rfl, .ref x, rfl, x, CC, dx5, _, _, rfl, hx5, TC.cl, TC.n2, cf_p, .str z, rfl, a.p, _, rfl, dget_rd (.inl co5.hp) nd (idx_get hz) (map_get (map_get (idx_get hz))), _, _, rfl, ?_⟩
          have eM := mostP_some (z := z) eo
          have hj : zs.idxOf z < zs.length := List.idxOf_lt_length_of_mem hz
          have h1 : zs.idxOf z < D.notes.length := by rw [g.ln]; exact hj
          have h2 : zs.idxOf z < D.fallen.length := by rw [g.lf]; exact hj
          have el := List.getElem?_eq_getElem h1
          have ef := List.getElem?_eq_getElem h2
          have eo2 := eo
          rw [getD_of (dues_at (M := bkOf zs D) el ef)] at eo2
          generalize D.notes[zs.idxOf z] = l at el eo2
          generalize D.fallen[zs.idxOf z] = f0 at ef eo2
          cases eL : leftN l f0 with
          | nil =>
            rw [eL] at eo2
            cases eo2
          | cons nh r =>
            rw [eL] at eo2
            have enh : nh = nn := Option.some.inj eo2
            subst enh
            obtain ⟨t, b⟩ := nh
            obtain ⟨gE, gbE, tE⟩ := pay_less g gb nr hz el ef eL rfl (by rw [eM] at pz; exact pz)
            have hn : ∀ n ∈ l, 1 ≤ n.2 := fun n hn => (g.nt l (List.mem_of_getElem? el) n hn).2.1
            have f00 := g.fl f0 (List.mem_of_getElem? ef)
            have mlo : 0 < if cashM (bkOf zs D) (zs.idxOf z) z < b then cashM (bkOf zs D) (zs.idxOf z) z else b := by rw [eM] at pz; exact pz
            have mhi : (if cashM (bkOf zs D) (zs.idxOf z) z < b then cashM (bkOf zs D) (zs.idxOf z) z else b) ≤ b := by split <;> omega
            have ht : t ∈ zs := wk.ld z t (by
              show nxD zs D z = some t
              rw [nxD_at nd (idx_get hz) el ef, eL]
              rfl)
            have ll := g.rows l (List.mem_of_getElem? el)
            generalize hm : (if cashM (bkOf zs D) (zs.idxOf z) z < b then cashM (bkOf zs D) (zs.idxOf z) z else b) = m at gE gbE tE mlo mhi
            rw [show (if cashY zs D z < (t, b).2 then cashY zs D z else (t, b).2) = m from hm]
            refine ⟨.ref x, rfl, x, dx5, _, rfl, hx5, cf_no (NoFC.mk' (by decide +kernel)), .str z, rfl, .int m, rfl, x, a, zs, F, D, n, zs.idxOf z, z, t, m, f0, b, l, r, rfl, co5, nd, g.nz.n1, idx_get hz, el, ef, by omega, hn, f00, eL, by omega, mhi, ht, fun H6 b6 co6 => ?_⟩
            obtain ⟨dx6, hx6⟩ := co6.hx
            obtain ⟨ts, ht6, lt6⟩ := co6.ht
            have t6 := Tabs.butC t5 co5 b6
            refine ⟨.ref x, rfl, x, CC, dx6, _, _, rfl, hx6, TC.cl, TC.n4, cf_t, .inl ⟨rfl, _, .inl (.inl ht6)⟩, .str z, rfl, .int m, rfl, by show 3 ≤ sizeLine; decide, fun p np => ⟨a.t, ts, _, rfl, rfl, same_upd np _ _ ht6, by show _ < 2 ^ 24; omega, ?_⟩⟩
            have co7 := co6.same (ExtN.of (same_upd (o := .tup [V.str "pay", V.str z, V.int m]) np))
            have sp := same_upd (o := .tup [V.str "pay", V.str z, V.int m]) np
            generalize upd H6 p (.tup [V.str "pay", V.str z, V.int m]) = H7 at co7 sp
            have t7 := t6.ext sp
            have b8 : ButC a H7 (upd H7 a.t (.lst (ts ++ [V.ref p]))) := fun c o n1 n2 n3 n4 e => by
              rw [upd_ne n4]
              exact e
            exact qY _ _ ((ButN.ext e3).trans ((ButN.of (b6.trans (ButC.of sp))).trans (ButN.of b8))) (Tabs.butC t7 co7 b8) (co7.step (ts := ts) (sp _ _ ht6) lt6 _) gE gbE rfl rfl tE
end
end Rc

namespace Rc
open PySem PySem.Spec PyProof.Rows L2 RZ LamX
theorem book_ext {K : PySem.W.Frag} {C : Addr} {H H' : Hp} {b : Addr} {M : Bk} (h : BookAt K C H b M) (s : ExtN H H') : BookAt K C H' b M := by
  obtain ⟨dx, tn, on, wg, ws, wd, e, h1, hn, h2, h3, h4⟩ := h.ex
  have kt := ext_kt s
  exact ⟨dx, tn, on, wg, ws, wd, s _ _ e (fun ps z => by cases z), kt _ _ h1 trivial, hn, Dt.keepT kt _ (tup_ints _) h2, Dt.keepT kt _ (tup_stacks _) h3, Dt.keepT kt _ (tup_ints _) h4⟩
theorem ButN.extN {a : CoAd} {H H1 H2 : Hp} (b : ButN a H1 H2) (e : ExtN H H1) (n : H a.h = none ∧ H a.p = none ∧ H a.s = none ∧ H a.t = none) : ExtN H H2 := fun c o hc ht =>
  b c o (ne_of_none hc n.1) (ne_of_none hc n.2.1) (ne_of_none hc n.2.2.1) (ne_of_none hc n.2.2.2) ht (e c o hc ht)
theorem ExtN.free {H H1 : Hp} (e : ExtN H H1) {c : Addr} (h : H1 c = none) : H c = none ∨ ∃ ps, H c = some (.tbl ps) := by
  cases z : H c with
  | none => exact .inl rfl
  | some o =>
    by_cases t : ∃ ps, o = .tbl ps
    · obtain ⟨ps, rfl⟩ := t
      exact .inr ⟨ps, rfl⟩
    · rw [e c o z fun ps y => t ⟨ps, y⟩] at h
      cases h
section
variable {P : Program} {w : World} {K : PySem.W.Frag} {mg : Str → Option Value} {base : Heap}
/-! ### course_of -/
abbrev sCof : Stmt := topS 45
abbrev nCof : List Str := ["book", "course", "going", "dues"]
theorem scCof : FnScope nCof ["book"] (defScope sCof) := ⟨rfl, rfl, rfl, by decide +kernel, rfl, by decide +kernel, by decide +kernel⟩
def spCof (K : PySem.W.Frag) (C CC : Addr) (T : List (Addr × Str)) : Sp := fun vs H Q _ => ∃ (b : Addr) (zs : List Str) (D : Md), vs = [.ref b] ∧ BookAt K C H b (bkOf zs D) ∧ Gs zs D ∧ Gb D ∧ Tabs T H ∧
  ∀ x a E n H', ExtN H H' → Tabs T H' → CourseAt K CC H' x a zs D.fallen E n → Gs zs E → Gb E → E.given = D.given → E.notes = D.notes → Settled zs E → Q (.ref x) H'
theorem ok_cof {f fi f1 f2 f3 C CC : Addr} {fd fdi fd1 fd2 fd3 : FuncData} {T : List (Addr × Str)} (Fn : Fun K "course_of" "course_of" sCof f fd) (TC : ClsC K CC) (M : Mk K CC fi) (gC : mg "Course" = some (.ref CC)) (GI : FnOk P w K mg base CX0 6 fi fdi ["self", "book"] (spCIn K C CC)) (bI : Binds K fdi ["self", "book"] [])
    (DU : HasM P w K mg base CC 1 "dues" ["self"] (spCDu K CC) f1 fd1) (CL : HasM P w K mg base CC 4 "clear_one" ["self", "dues"] (spCl1 K CC) f2 fd2) (PY : HasM P w K mg base CC 4 "pay_one" ["self", "dues"] (spPy1 K CC T) f3 fd3) : FnOk P w K mg base CX0 8 f fd ["book"] (spCof K C CC T) := by
  refine Fn.ok scCof (fun vs H Q E h => ?_) (fun cdv A outer s H vs Q E hr h => ?_)
  · obtain ⟨_, _, _, rfl, _⟩ := h
    rfl
  · obtain ⟨b, zs, D, rfl, hb, g, gb, tT, q⟩ := h
    have hr1 := hr.mono (show 1 ≤ 7 by decide)
    have hr4 := hr.mono (show 4 ≤ 7 by decide)
    refine ⟨_, pss_cons (ps_set (i := 1) scCof.nd rfl (.inl rfl) (pe_make M GI hr (by rfl) gC bI .nil pass0 (pa_cons (pv 0) pa_nil)))
      (pss_cons (ps_set (i := 2) scCof.nd rfl (.inl rfl) pe_bl)
      (pss_cons (ps_while PassesOwn.never (pt_val (pv 2))
        (pss_cons (ps_set (i := 3) scCof.nd rfl (.inl rfl) (pe_meth0 (pv 1) TC.cl DU.m DU.ok hr1 DU.b .nil pass0))
        (pss_one (ps_set (i := 2) scCof.nd rfl (.inl rfl) (pe_or (pe_meth (pv 1) TC.cl CL.m CL.ok hr4 CL.b .nil pass0 (pa_cons (pv 3) pa_nil)) (pe_one (pe_meth (pv 1) TC.cl PY.m PY.ok hr4 PY.b .nil pass0 (pa_cons (pv 3) pa_nil))))))))
      (pss_one (ps_ret (pv 1))))), ?_⟩
    refine ⟨.ref b, rfl, ?_⟩
    intro x dy nx ndy nxy
    have s1 : Same H (upd (upd H dy (.own x)) x (.ins CC dy [])) := fun c o e => by
      rw [upd_ne (ne_of_none e nx), upd_ne (ne_of_none e ndy)]
      exact e
    refine ⟨x, dy, b, zs, D, rfl, upd_same, book_same hb s1, g, fun a H2 b2 fr co => ⟨rfl, ?_⟩⟩
    have s2 : Same H H2 := fun c o e => b2 c o (ne_of_none e nx) (s1 c o e)
    have frH : H a.h = none ∧ H a.p = none ∧ H a.s = none ∧ H a.t = none := ⟨s1.free fr.1, s1.free fr.2.1, s1.free fr.2.2.1, s1.free fr.2.2.2⟩
    refine ⟨fun k σ H' => ∃ (E : Md) (n : Nat) (bb : Bool) (y3 : Option V), σ = [some (.ref b), some (.ref x), some (.bl bb), y3] ∧ ExtN H H' ∧ Tabs T H' ∧ CourseAt K CC H' x a zs D.fallen E n ∧ Gs zs E ∧ Gb E ∧ E.given = D.given ∧ E.notes = D.notes ∧ n + turnsM zs E ≤ 8844 ∧ k = (if bb = true then turnsM zs E + 1 else 0) ∧ (bb = false → Settled zs E),
      ⟨_, D, 0, true, _, rfl, ExtN.of s2, tT.ext s2, co, g, gb, rfl, rfl, by have := turns_top g; omega, rfl, fun z => by cases z⟩, ?_⟩
    rintro k σ H3 ⟨E, n, bb, y3, rfl, e3, t3, co3, gE, gbE, hg, hn, hk, rfl, st⟩
    refine ⟨.bl bb, rfl, _, rfl, ?_⟩
    cases bb with
    | false => exact iteF ⟨.ref x, rfl, q x a E n H3 e3 t3 co3 gE gbE hg hn (st rfl)⟩
    | true =>
      refine iteT ⟨fun σ2 H4 => ∃ (E' : Md) (n' : Nat) (bb : Bool) (y3 : Option V), σ2 = [some (.ref b), some (.ref x), some (.bl bb), y3] ∧ ExtN H H4 ∧ Tabs T H4 ∧ CourseAt K CC H4 x a zs D.fallen E' n' ∧ Gs zs E' ∧ Gb E' ∧ E'.given = D.given ∧ E'.notes = D.notes ∧ n' + turnsM zs E' ≤ 8844 ∧ (bb = true → turnsM zs E' < turnsM zs E) ∧ (bb = false → Settled zs E'), fun σ2 H4 h4 => ?_, ?_⟩
      · obtain ⟨E', n', bb, y3, rfl, a1, a2, a3, a4, a5, a6, a7, a8, a9, a10⟩ := h4
        refine ⟨if bb = true then turnsM zs E' + 1 else 0, ?_, E', n', bb, y3, rfl, a1, a2, a3, a4, a5, a6, a7, a8, rfl, a10⟩
        cases bb with
        | false =>
          rw [if_neg (by decide), if_pos rfl]
          omega
        | true =>
          have := a9 rfl
          rw [if_pos rfl, if_pos rfl]
          omega
      · obtain ⟨dx, hx⟩ := co3.hx
        refine ⟨.ref x, rfl, x, dx, _, rfl, hx, cf_no (NoFC.mk' (by decide +kernel)), x, a, zs, _, E, n, rfl, co3, gE.nz.nd, gE.nz.n1, fun d H4 s4 nd4 hd4 => ?_⟩
        have co4 := co3.same (ExtN.of s4)
        obtain ⟨dx4, hx4⟩ := co4.hx
        have e4 := e3.trans (ExtN.of s4)
        have t4 := t3.ext s4
        refine ⟨.ref x, rfl, x, dx4, _, rfl, hx4, cf_no (NoFC.mk' (by decide +kernel)), .ref d, rfl, x, d, a, zs, _, E, n, rfl, co4, gE, gbE, hd4, by omega, fun H5 s5 nr => ?_, fun E' H5 b5 co5 g5 gb5 q1 q2 q3 => ?_⟩
        · have co5 := co4.same (ExtN.of s5)
          obtain ⟨dx5, hx5⟩ := co5.hx
          have e5 := e4.trans (ExtN.of s5)
          have t5 := t4.ext s5
          refine ⟨false, rfl, .ref x, rfl, x, dx5, _, rfl, hx5, cf_no (NoFC.mk' (by decide +kernel)), .ref d, rfl, x, d, a, zs, _, E, n, rfl, co5, gE, gbE, hd4.same s5, by omega, t5, nr, fun H6 s6 np => ?_, fun E' H6 b6 t6 co6 g6 gb6 q1 q2 q3 => ?_⟩
          · exact ⟨E, n, false, _, rfl, e5.trans (ExtN.of s6), t5.ext s6, co5.same (ExtN.of s6), gE, gbE, hg, hn, hk, (fun z => by cases z), fun _ => ⟨np, nr⟩⟩
          · exact ⟨E', n + 1, true, _, rfl, b6.extN e5 frH, t6, co6, g6, gb6, q1.trans hg, q2.trans hn, by omega, fun _ => q3, fun z => by cases z⟩
        · exact ⟨true, rfl, E', n + 1, true, _, rfl, (ButN.of b5).extN e4 frH, Tabs.butC t4 co4 b5, co5, g5, gb5, q1.trans hg, q2.trans hn, by omega, fun _ => q3, fun z => by cases z⟩
/-! ### settled_book -/
abbrev sSet : Stmt := topS 46
theorem scSet : FnScope ["book"] ["book"] (defScope sSet) := ⟨rfl, rfl, rfl, by decide +kernel, rfl, by decide +kernel, by decide +kernel⟩
def spSet (K : PySem.W.Frag) (C : Addr) (T : List (Addr × Str)) : Sp := fun vs H Q _ => ∃ (b : Addr) (zs : List Str) (D : Md), vs = [.ref b] ∧ BookAt K C H b (bkOf zs D) ∧ Gs zs D ∧ Gb D ∧ Tabs T H ∧
  ∀ b' E H', ExtN H H' → Tabs T H' → (H b' = none ∨ ∃ ps, H b' = some (.tbl ps)) → BookAt K C H' b' (bkOf zs E) → Gs zs E → Gb E → E.given = D.given → E.notes = D.notes → Settled zs E → Q (.ref b') H'
theorem dct_more (zs : List Str) (φ : Str → Int) : dct zs ((zs.map φ).map V.int) = moreK (zs.map fun z => (z, φ z)) := by
  induction zs with
  | nil => rfl
  | cons z zs ih =>
    unfold dct moreK at ih ⊢
    simp only [List.map_cons, List.zip_cons_cons] at ih ⊢
    rw [ih]
theorem more_at {zs : List Str} {φ : Str → Int} {z : Str} (hz : z ∈ zs) : moreAt (zs.map fun z => (z, φ z)) z = φ z := by
  unfold moreAt
  induction zs with
  | nil => cases hz
  | cons y zs ih =>
    rw [List.map_cons, List.find?_cons]
    by_cases h : y = z
    · subst h
      simp
    · rw [show decide ((y, φ y).1 = z) = false from decide_eq_false h]
      exact ih ((List.mem_cons.mp hz).resolve_left fun c => h c.symm)
/-- from a book to the one where so much more has fallen -/
theorem fall_to {zs : List Str} {D E : Md} (g : Gs zs D) (g' : Gs zs E) (hg : E.given = D.given) (hn : E.notes = D.notes) : fallM (bkOf zs D) (zs.map fun z => (z, sunkY zs D.fallen E z)) = bkOf zs E := by
  have nd := g.nz.nd
  have ed : ((bkOf zs D).names.zip (bkOf zs D).drops).map (fun p => p.2 + moreAt (zs.map fun z => (z, sunkY zs D.fallen E z)) p.1) = E.fallen := by
    show (zs.zip D.fallen).map _ = _
    refine List.ext_getElem? fun i => ?_
    by_cases hi : i < zs.length
    · have h1 : i < D.fallen.length := by rw [g.lf]; exact hi
      have h2 : i < E.fallen.length := by rw [g'.lf]; exact hi
      rw [List.getElem?_map, List.getElem?_zip_eq_some (z := (zs[i], D.fallen[i])) |>.mpr ⟨List.getElem?_eq_getElem hi, List.getElem?_eq_getElem h1⟩, List.getElem?_eq_getElem h2]
      show some (D.fallen[i] + moreAt _ zs[i]) = some E.fallen[i]
      rw [more_at (List.getElem_mem hi)]
      unfold sunkY
      rw [nd.idxOf_getElem i hi, getD_of (List.getElem?_eq_getElem h1), getD_of (List.getElem?_eq_getElem h2)]
      congr 1
      omega
    · rw [List.getElem?_eq_none (by rw [List.length_map, List.length_zip]; omega), List.getElem?_eq_none (by rw [g'.lf]; omega)]
  unfold fallM
  rw [ed]
  obtain ⟨gE, fE, nE⟩ := E
  have hg' : gE = D.given := hg
  have hn' : nE = D.notes := hn
  subst hg' hn'
  rfl
theorem fall_toOk {zs : List Str} {D E : Md} (g : Gs zs D) (gb : Gb D) (g' : Gs zs E) (gb' : Gb E) (hg : E.given = D.given) (hn : E.notes = D.notes) (st : Settled zs E) : FallOk (bkOf zs D) (zs.map fun z => (z, sunkY zs D.fallen E z)) := by
  have nd := g.nz.nd
  refine ⟨fun p hp => ?_, fun j z ej => ?_⟩
  · obtain ⟨z, hz, rfl⟩ := List.mem_map.mp hp
    have hj : zs.idxOf z < zs.length := List.idxOf_lt_length_of_mem hz
    have h1 : zs.idxOf z < D.notes.length := by rw [g.ln]; exact hj
    have h2 : zs.idxOf z < D.fallen.length := by rw [g.lf]; exact hj
    have h3 : zs.idxOf z < E.fallen.length := by rw [g'.lf]; exact hj
    have cv : Covers zs E D.fallen := ⟨g.lf, g.fl, fun i l x el ex => gb.fw i l x (by rw [← hn]; exact el) ex, fun i y ey => by
      have := g.cs i y ey
      have e : bkOf zs (withF E D.fallen) = bkOf zs D := by
        obtain ⟨gE, fE, nE⟩ := E
        have hg' : gE = D.given := hg
        have hn' : nE = D.notes := hn
        subst hg' hn'
        rfl
      rw [e]
      exact this⟩
    have gr := settled_greatest g' st cv z hz
    have e2 := List.getElem?_eq_getElem h2
    have e3 := List.getElem?_eq_getElem h3
    have fw := gb'.fw (zs.idxOf z) _ _ (show E.notes[zs.idxOf z]? = some D.notes[zs.idxOf z] by rw [hn]; exact List.getElem?_eq_getElem h1) e3
    refine ⟨zs.idxOf z, _, _, idx_get hz, List.getElem?_eq_getElem h1, e2, ?_, ?_⟩
    · show 0 ≤ sunkY zs D.fallen E z
      unfold sunkY
      omega
    · show D.fallen[zs.idxOf z] + sunkY zs D.fallen E z ≤ _
      unfold sunkY
      rw [getD_of e2, getD_of e3]
      omega
  · rw [fall_to g g' hg hn]
    exact g'.cs j z ej
theorem ok_set {f f1 f2 C CC : Addr} {fd fd1 fd2 : FuncData} {T : List (Addr × Str)} (Fn : Fun K "settled_book" "settled_book" sSet f fd) (TF : ClsF K C) (TC : ClsC K CC) (LF : HasM P w K mg base C 7 "let_fall" ["self", "more"] (spLetF K C) f1 fd1) (CO : Has P w K mg base 8 "course_of" ["book"] (spCof K C CC T) f2 fd2) : FnOk P w K mg base CX0 9 f fd ["book"] (spSet K C T) := by
  refine Fn.ok scSet (fun vs H Q E h => ?_) (fun cdv A outer s H vs Q E hr h => ?_)
  · obtain ⟨_, _, _, rfl, _⟩ := h
    rfl
  · obtain ⟨b, zs, D, rfl, hb, g, gb, tT, q⟩ := h
    have hr7 := hr.mono (show 7 ≤ 8 by decide)
    refine ⟨_, pss_one (ps_ret (pe_meth (pv 0) TF.cl LF.m LF.ok hr7 LF.b .nil pass0 (pa_cons (pe_fld (pe_call CO.ok hr (by rfl) CO.g CO.kp CO.b .nil pass0 (pa_cons (pv 0) pa_nil)) rfl) pa_nil))), ?_⟩
    obtain ⟨dx, tn, on, wg, ws, wd, e, _⟩ := hb.ex
    refine ⟨.ref b, rfl, b, dx, _, rfl, e, bf_no (NoF.mk' (by decide +kernel)), .ref b, rfl, b, zs, D, rfl, hb, g, gb, tT, fun x a E n H1 e1 t1 co gE gbE hg hn st => ?_⟩
    obtain ⟨dx1, hx1⟩ := co.hx
    refine ⟨x, CC, dx1, _, _, rfl, hx1, TC.cl, TC.n3, cf_s, b, a.s, _, _, rfl, book_ext hb e1, g.ok, by rw [← dct_more]; exact co.hs, fall_toOk g gb gE gbE hg hn st, fun b' H2 s2 nb hb2 => ?_⟩
    rw [fall_to g gE hg hn] at hb2
    exact q b' E H2 (e1.trans (ExtN.of s2)) (t1.ext s2) (ExtN.free e1 nb) hb2 gE gbE hg hn st
end
end Rc

namespace Rc
open PySem PySem.Spec PyProof.Rows L2 RZ LamX
/-! ### a heap behind another, with tables of code -/
structure Wd (T : List (Addr × Str)) (H G : Hp) : Prop where
  e : ExtN H G
  t : Tabs T G
/-- new, or a table -/
def Nw (H : Hp) (p : Addr) : Prop := H p = none ∨ ∃ ps, H p = some (.tbl ps)
section
variable {T : List (Addr × Str)} {H G G' : Hp} {p : Addr}
theorem Nw.ne (n : Nw H p) {c : Addr} {o : HO} (h : H c = some o) (t : ∀ ps, o ≠ .tbl ps) : c ≠ p := fun z => by
  rcases n with n | ⟨ps, n⟩
  · rw [z, n] at h
    cases h
  · rw [z, n] at h
    exact t ps (Option.some.inj h).symm
theorem Wd.same (w : Wd T H G) (s : Same G G') : Wd T H G' := ⟨w.e.trans (ExtN.of s), w.t.ext s⟩
theorem Wd.ext (w : Wd T H G) (s : ExtN G G') (t : Tabs T G') : Wd T H G' := ⟨w.e.trans s, t⟩
theorem Wd.nw (w : Wd T H G) (n : G p = none) : Nw H p := ExtN.free w.e n
theorem Wd.nwN (w : Wd T H G) (n : Nw G p) : Nw H p := by
  cases z : H p with
  | none => exact .inl z
  | some o =>
    by_cases t : ∃ ps, o = .tbl ps
    · obtain ⟨ps, rfl⟩ := t
      exact .inr ⟨ps, z⟩
    · have := w.e p o z fun ps y => t ⟨ps, y⟩
      exact absurd rfl (n.ne this fun ps y => t ⟨ps, y⟩)
theorem tabs_but (t : Tabs T G) (b : But p G G') (hp : ∃ o, G p = some o ∧ (∀ ps, o ≠ .tbl ps) ∧ ∀ c q, o ≠ CodeO c q) : Tabs T G' := fun x hx => by
  obtain ⟨ps, h1, h2, h3⟩ := t x hx
  obtain ⟨o, ho, n1, n2⟩ := hp
  refine ⟨ps, b _ _ (fun z => ?_) h1, h2, fun pos cv hc => ?_⟩
  · rw [z, ho] at h1
    exact n1 ps (Option.some.inj h1)
  · obtain ⟨c, e1, e2⟩ := h3 pos cv hc
    refine ⟨c, e1, b _ _ (fun z => ?_) e2⟩
    rw [z, ho] at e2
    exact n2 _ _ (Option.some.inj e2)
theorem lst_code {xs : List V} (c : Addr) (q : Str) : HO.lst xs ≠ CodeO c q := fun z => by
  unfold CodeO at z
  cases z
theorem dK_code {xs : List (Key × V)} (c : Addr) (q : Str) : HO.dK xs ≠ CodeO c q := fun z => by
  unfold CodeO at z
  cases z
theorem Wd.but (w : Wd T H G) (b : But p G G') (hp : Pot G p) (n : Nw H p) : Wd T H G' := by
  obtain ⟨x, y, e, _⟩ := hp
  exact ⟨fun c o h t => b c o (n.ne h t) (w.e c o h t), tabs_but w.t b ⟨_, e, (by intro ps z; cases z), lst_code⟩⟩
theorem Wd.butD (w : Wd T H G) {m : List (Key × V)} (b : But p G G') (hp : G p = some (.dK m)) (n : Nw H p) : Wd T H G' :=
  ⟨fun c o h t => b c o (n.ne h t) (w.e c o h t), tabs_but w.t b ⟨_, hp, (by intro ps z; cases z), dK_code⟩⟩
theorem Pot.ext {H H' : Hp} (h : Pot H p) (e : ExtN H H') : Pot H' p := by
  obtain ⟨x, y, h1, h2⟩ := h
  exact ⟨x, y, e _ _ h1 (by intro ps z; cases z), h2⟩
theorem sql_ext {K : PySem.W.Frag} {H H' : Hp} {a : Addr} {xs : List V} (h : SqL K H a xs) (e : ExtN H H') : SqL K H' a xs := by
  rcases h with (h | ⟨o, h⟩) | h
  · exact .inl (.inl (e _ _ h (by intro ps z; cases z)))
  · exact .inl (.inr ⟨o, e _ _ h (by intro ps z; cases z)⟩)
  · exact .inr h
end
theorem model_ext {K : PySem.W.Frag} {H H' : Hp} {zs : List Str} {a : MdA} {D : Md} (h : ModelAt K H zs a D) (s : ExtN H H') : ModelAt K H' zs a D :=
  { h with
    hm := s _ _ h.hm (by intro ps z; cases z)
    ho := s _ _ h.ho (by intro ps z; cases z)
    hg := s _ _ h.hg (by intro ps z; cases z)
    hf := s _ _ h.hf (by intro ps z; cases z)
    hn := s _ _ h.hn (by intro ps z; cases z)
    rows := fun i r l a1 a2 => by
      obtain ⟨xs, x1, x2⟩ := h.rows i r l a1 a2
      exact ⟨xs, s _ _ x1 (by intro ps z; cases z), DtAll.keepT (ext_kt s) _ (tup_notes _) x2⟩ }
theorem Bd.mono {D : Md} {k m : Nat} (h : Bd D k) (e : k ≤ m) : Bd D m := ⟨fun g hg => by
  obtain ⟨a, b⟩ := h.gv g hg
  exact ⟨a, Int.le_trans b (Int.mul_le_mul_of_nonneg_right (Int.ofNat_le.mpr e) (by decide))⟩, Nat.le_trans h.my e⟩
theorem Bd.keeps {D E : Md} {k : Nat} (h : Bd D k) (hg : E.given = D.given) (hn : E.notes = D.notes) : Bd E k := ⟨by rw [hg]; exact h.gv, by rw [hn]; exact h.my⟩
theorem md_lens' (zs : List Str) (ds : List Deed) : (mdAt zs ds).given.length = zs.length ∧ (mdAt zs ds).notes.length = zs.length := by
  have h : ∀ (ds : List Deed) (D : Md), (ds.foldl (doneD zs) D).given.length = D.given.length ∧ (ds.foldl (doneD zs) D).notes.length = D.notes.length := fun ds => by
    induction ds with
    | nil => exact fun D => ⟨rfl, rfl⟩
    | cons d r ih =>
      intro D
      obtain ⟨a, b⟩ := ih (doneD zs D d)
      obtain ⟨c, e⟩ := done_lens zs D d
      exact ⟨a.trans c, b.trans e⟩
  obtain ⟨a, b⟩ := h ds (newMd zs.length)
  exact ⟨a.trans List.length_replicate, b.trans List.length_replicate⟩
/-- a law that reaches tables of code -/
def spLawT (K : PySem.W.Frag) (T : List (Addr × Str)) : Sp := fun vs H Q _ => ∃ (a : Addr) (ns : List Int), vs = [.ref a] ∧ SqL K H a (ns.map V.int) ∧ ns.length ≤ 63 ∧ Tabs T H ∧ ∀ H', Q (.bl true) H'
end Rc

namespace Rc
open PySem PySem.Spec PyProof.Rows L2 RZ LamX
/-! ### a heap behind another but for the pot, with tables of code -/
structure WdP (T : List (Addr × Str)) (p : Addr) (H G : Hp) : Prop where
  e : ∀ c o, c ≠ p → (∀ ps, o ≠ .tbl ps) → H c = some o → G c = some o
  t : Tabs T G
section
variable {T : List (Addr × Str)} {H G G' : Hp} {p x : Addr}
theorem WdP.same (w : WdP T p H G) (s : Same G G') : WdP T p H G' := ⟨fun c o n t h => s _ _ (w.e c o n t h), w.t.ext s⟩
theorem WdP.ext (w : WdP T p H G) (s : ExtN G G') (t : Tabs T G') : WdP T p H G' := ⟨fun c o n t' h => s _ _ (w.e c o n t' h) t', t⟩
theorem WdP.but (w : WdP T p H G) (b : But p G G') (hp : Pot G p) : WdP T p H G' := by
  obtain ⟨x, y, e, _⟩ := hp
  exact ⟨fun c o n t h => b c o n (w.e c o n t h), tabs_but w.t b ⟨_, e, (by intro ps z; cases z), lst_code⟩⟩
/-- new behind the pot -/
def NwP (p : Addr) (H : Hp) (x : Addr) : Prop := x = p ∨ Nw H x
theorem WdP.nw (w : WdP T p H G) (n : Nw G x) : NwP p H x := by
  by_cases h : x = p
  · exact .inl h
  · right
    cases z : H x with
    | none => exact .inl z
    | some o =>
      by_cases t : ∃ ps, o = .tbl ps
      · obtain ⟨ps, rfl⟩ := t
        exact .inr ⟨ps, z⟩
      · have := w.e x o h (fun ps y => t ⟨ps, y⟩) z
        exact absurd rfl (n.ne this fun ps y => t ⟨ps, y⟩)
theorem WdP.butD (w : WdP T p H G) {m : List (Key × V)} (b : But x G G') (hx : G x = some (.dK m)) (n : NwP p H x) : WdP T p H G' :=
  ⟨fun c o hc t h => b c o (fun z => by
    rcases n with n | n
    · exact hc (z.trans n)
    · exact n.ne h t z) (w.e c o hc t h), tabs_but w.t b ⟨_, hx, (by intro ps z; cases z), dK_code⟩⟩
end
/-- a law's cell, where tables of code are reached -/
def spLRtT (T : List (Addr × Str)) : Sp := fun vs H Q _ => ∃ p : Addr, vs = [.ref p] ∧ Pot H p ∧ Tabs T H ∧ ∀ H', WdP T p H H' → Q (.bl true) H'
end Rc

set_option pp.maxSteps 700
namespace Rc
open PySem PySem.Spec PyProof.Rows L2 RZ LamX
/-- what is fixed stays, tables aside -/
def Kn (H H' : Hp) : Prop := ∀ c o, Fix o → (∀ ps, o ≠ .tbl ps) → H c = some o → H' c = some o
theorem Kn.kt {H H' : Hp} (k : Kn H H') : KT H H' := fun b o e t => k b o (by cases o <;> first | exact t.elim | exact trivial) (fun ps z => by rw [z] at t; exact t) e
theorem book_kn {K : PySem.W.Frag} {C : Addr} {H H' : Hp} {b : Addr} {M : Bk} (h : BookAt K C H b M) (s : Kn H H') : BookAt K C H' b M := by
  obtain ⟨dx, tn, on, wg, ws, wd, e, h1, hn, h2, h3, h4⟩ := h.ex
  have kt := s.kt
  exact ⟨dx, tn, on, wg, ws, wd, s _ _ trivial (fun ps z => by cases z) e, kt _ _ h1 trivial, hn, Dt.keepT kt _ (tup_ints _) h2, Dt.keepT kt _ (tup_stacks _) h3, Dt.keepT kt _ (tup_ints _) h4⟩
theorem WdP.kn {T : List (Addr × Str)} {p : Addr} {H H' : Hp} (w : WdP T p H H') (hp : Pot H p) : Kn H H' := fun c o f t e => by
  obtain ⟨x, y, ep, _⟩ := hp
  refine w.e c o (fun z => ?_) t e
  rw [z, ep] at e
  cases e
  exact f
theorem WdP.rf {T : List (Addr × Str)} {H : Hp} (p : Addr) (t : Tabs T H) : WdP T p H H := ⟨fun _ _ _ _ h => h, t⟩
section
variable {T : List (Addr × Str)} {H G G' : Hp} {p x : Addr}
theorem WdP.trans (a : WdP T p H G) (b : WdP T p G G') : WdP T p H G' := ⟨fun c o n t e => b.e c o n t (a.e c o n t e), b.t⟩
theorem WdP.lst (a : WdP T p H G) {l : Addr} {xs : List V} (n : l ≠ p) (e : H l = some (.lst xs)) : G l = some (.lst xs) := a.e _ _ n (by intro ps z; cases z) e
/-- a new list grows -/
theorem WdP.updL (a : WdP T p H G) {xs ys : List V} (n : H x = none) (e : G x = some (.lst xs)) : WdP T p H (upd G x (.lst ys)) := by
  have bt : But x G (upd G x (.lst ys)) := fun c o hc e => by rw [upd_ne hc]; exact e
  exact ⟨fun c o nc t ec => by rw [upd_ne (ne_of_none ec n)]; exact a.e c o nc t ec, tabs_but a.t bt ⟨_, e, (by intro ps z; cases z), lst_code⟩⟩
theorem WdP.of_same (t : Tabs T H) (s : Same H G) : WdP T p H G := (WdP.rf p t).same s
theorem WdP.of_but (t : Tabs T H) (hp : Pot H p) (b : But p H G) : WdP T p H G := (WdP.rf p t).but b hp
theorem WdP.of_ext (e : ExtN H G) (t : Tabs T G) : WdP T p H G := ⟨fun c o _ nt ec => e c o ec nt, t⟩
theorem WdP.wd (a : WdP T p G G') (w : Wd T H G) (n : Nw H p) : Wd T H G' := ⟨fun c o h t => a.e c o (n.ne h t) t (w.e c o h t), a.t⟩
theorem WdP.book {K : PySem.W.Frag} {C : Addr} {b : Addr} {M : Bk} (a : WdP T p H G) (hp : Pot H p) (h : BookAt K C H b M) : BookAt K C G b M := book_kn h (a.kn hp)
theorem WdP.dtA {K : PySem.W.Frag} {xs : List V} {ds : List PyData} (a : WdP T p H G) (hp : Pot H p) (t : tupDs ds = true) (h : DtAll K H xs ds) : DtAll K G xs ds := DtAll.keepT (a.kn hp).kt _ t h
theorem WdP.dt {K : PySem.W.Frag} {x : V} {d : PyData} (a : WdP T p H G) (hp : Pot H p) (t : tupD d = true) (h : Dt K H x d) : Dt K G x d := Dt.keepT (a.kn hp).kt _ t h
end
theorem BookAt.meth {K : PySem.W.Frag} {C : Addr} {H : Hp} {b : Addr} {M : Bk} (h : BookAt K C H b M) : ∃ dx fs, H b = some (.ins C dx fs) ∧ ∀ {m : Str}, ((m == "names") || (m == "gifts") || (m == "stacks") || (m == "drops")) = false → fs.lookup m = none := by
  obtain ⟨dx, tn, on, wg, ws, wd, e, _⟩ := h.ex
  exact ⟨dx, _, e, fun h => bf_no (NoF.mk' h)⟩
end Rc

set_option pp.maxSteps 900
namespace Rc
open PySem PySem.Spec PyProof.Rows L2 RZ LamX
/-! ### a row of deeds that grows -/
structure Dl (K : PySem.W.Frag) (H : Hp) (p r : Addr) (zs : List Str) (xs : List V) (ds : List Deed) (H' : Hp) : Prop where
  hr : H' r = some (.lst xs)
  dd : DtAll K H' xs (deedsD ds)
  od : ∀ d ∈ ds, d.Ok zs
  hp : Pot H' p
  bt : But p H H'
  nr : H r = none
  rp : r ≠ p
section
variable {K : PySem.W.Frag} {H H' H'' : Hp} {p r : Addr} {zs : List Str} {xs : List V} {ds : List Deed}
theorem Dl.new (hp : Pot H p) (nr : H r = none) : Dl K H p r zs [] [] (upd H r (.lst [])) := ⟨upd_same, .nil, fun d hd => absurd hd List.not_mem_nil, hp.new nr, But.new nr, nr, hp.ne nr⟩
theorem Dl.len (v : Dl K H p r zs xs ds H') : xs.length = ds.length := by
  rw [v.dd.len]
  exact List.length_map ..
theorem Dl.but (v : Dl K H p r zs xs ds H') (b : But p H' H'') (hp : Pot H'' p) : Dl K H p r zs xs ds H'' :=
  ⟨b _ _ v.rp v.hr, DtAll.keepT (But.kt b v.hp) _ (tup_deeds ds) v.dd, v.od, hp, v.bt.trans b, v.nr, v.rp⟩
theorem Dl.same (v : Dl K H p r zs xs ds H') (s : Same H' H'') : Dl K H p r zs xs ds H'' := v.but (same_but s) (v.hp.same s)
theorem Dl.put {x : V} {d : Deed} (v : Dl K H p r zs xs ds H') (dx : Dt K H' x (deedD d)) (ok : d.Ok zs) (i : Nat) : Dl K H p r zs (xs.take i ++ [x] ++ xs.drop i) (ds.take i ++ [d] ++ ds.drop i) (upd H' r (.lst (xs.take i ++ [x] ++ xs.drop i))) := by
  have kt : KT H' (upd H' r (.lst (xs.take i ++ [x] ++ xs.drop i))) := kt_upd (o := .lst xs) v.hr fun z => z
  have d2 := DtAll.keepT kt _ (tup_deeds ds) v.dd
  have dx2 := Dt.keepT kt _ (tup_deed d) dx
  refine ⟨upd_same, ?_, fun d' h' => ?_, ?_, fun b o n e => ?_, v.nr, v.rp⟩
  · unfold deedsD at d2 ⊢
    rw [List.map_append, List.map_append, List.map_take, List.map_drop]
    exact ((d2.take i).append (.cons dx2 .nil)).append (d2.drop i)
  · rcases List.mem_append.mp h' with h' | h'
    · rcases List.mem_append.mp h' with h' | h'
      · exact v.od d' (List.mem_of_mem_take h')
      · rw [List.mem_singleton.mp h']
        exact ok
    · exact v.od d' (List.mem_of_mem_drop h')
  · obtain ⟨x, y, e, rr⟩ := v.hp
    exact ⟨x, y, by rw [upd_ne v.rp.symm]; exact e, rr⟩
  · rw [upd_ne (ne_of_none e v.nr)]
    exact v.bt _ _ n e
theorem Dl.app {x : V} {d : Deed} (v : Dl K H p r zs xs ds H') (dx : Dt K H' x (deedD d)) (ok : d.Ok zs) : Dl K H p r zs (xs ++ [x]) (ds ++ [d]) (upd H' r (.lst (xs ++ [x]))) := by
  have h := v.put dx ok xs.length
  rw [List.take_length, List.drop_length, List.append_nil] at h
  rw [v.len, List.take_length, List.drop_length, List.append_nil] at h
  exact h
theorem dt_give {t : Addr} {z : Str} {n : Int} (h : H t = some (.tup [.str "give", .str z, .int n])) : Dt K H (.ref t) (deedD (.give z n)) := .tup (.inl (.inl h)) (.cons (.str _) (.cons (.str _) (.cons (.int _) .nil)))
theorem dt_put {t : Addr} {z y : Str} {n : Int} (h : H t = some (.tup [.str "put", .str z, .str y, .int n])) : Dt K H (.ref t) (deedD (.put z y n)) := .tup (.inl (.inl h)) (.cons (.str _) (.cons (.str _) (.cons (.str _) (.cons (.int _) .nil))))
end
end Rc

namespace Rc
open PySem PySem.Spec PyProof.Rows L2 RZ LamX
abbrev inLedger (i : Nat) : Stmt := inClass (topS 48) i
/-! ### a ledger -/
def lgV (a b : V) : List (Str × V) := [("books", a), ("deeds", b)]
theorem lg_b {a b : V} : (lgV a b).lookup ("books" : Str) = some a := lk_hit
theorem lg_d {a b : V} : (lgV a b).lookup ("deeds" : Str) = some b := (lk_miss (by decide +kernel)).trans lk_hit
def NoFL (m : Str) : Prop := (m == "books") = false ∧ (m == "deeds") = false
theorem NoFL.mk' {m : Str} (h : ((m == "books") || (m == "deeds")) = false) : NoFL m := by
  simp only [Bool.or_eq_false_iff] at h
  exact h
theorem lg_no {a b : V} {m : Str} (h : NoFL m) : (lgV a b).lookup m = none := (lk_miss h.1).trans ((lk_miss h.2).trans rfl)
structure ClsL (K : PySem.W.Frag) (C : Addr) : Prop where
  cl : Cls K C
  n1 : NoAttr K C "books"
  n2 : NoAttr K C "deeds"
structure LdAd where
  b : Addr
  d : Addr
structure LdAt (K : PySem.W.Frag) (C CL : Addr) (H : Hp) (x : Addr) (a : LdAd) (zs : List Str) (Es : List Md) (ls : List PyData) : Prop where
  hx : ∃ dx, H x = some (.ins CL dx (lgV (.ref a.b) (.ref a.d)))
  hb : ∃ bs : List Addr, H a.b = some (.lst (bs.map V.ref)) ∧ bs.length = Es.length ∧ ∀ (i : Nat) (b : Addr) (E : Md), bs[i]? = some b → Es[i]? = some E → BookAt K C H b (bkOf zs E)
  hd : ∃ xs, H a.d = some (.lst xs) ∧ DtAll K H xs ls
  ne : a.b ≠ a.d
  tp : tupDs ls = true
section
variable {K : PySem.W.Frag} {C CL : Addr} {H H' : Hp} {x : Addr} {a : LdAd} {zs : List Str} {Es : List Md} {ls : List PyData}
theorem LdAt.ext (h : LdAt K C CL H x a zs Es ls) (s : ExtN H H') : LdAt K C CL H' x a zs Es ls := by
  obtain ⟨dx, hx⟩ := h.hx
  obtain ⟨bs, e1, e2, e3⟩ := h.hb
  obtain ⟨xs, t1, t2⟩ := h.hd
  exact ⟨⟨dx, s _ _ hx (by intro ps z; cases z)⟩, ⟨bs, s _ _ e1 (by intro ps z; cases z), e2, fun i b E h1 h2 => book_ext (e3 i b E h1 h2) s⟩, ⟨xs, s _ _ t1 (by intro ps z; cases z), DtAll.keepT (ext_kt s) _ h.tp t2⟩, h.ne, h.tp⟩
theorem LdAt.same (h : LdAt K C CL H x a zs Es ls) (s : Same H H') : LdAt K C CL H' x a zs Es ls := h.ext (ExtN.of s)
/-- all but the lists of a ledger -/
def ButL (a : LdAd) (H H' : Hp) : Prop := ∀ c o, c ≠ a.b → c ≠ a.d → (∀ ps, o ≠ .tbl ps) → H c = some o → H' c = some o
theorem ButL.trans {H1 : Hp} (x : ButL a H H1) (y : ButL a H1 H') : ButL a H H' := fun c o n1 n2 t e => y c o n1 n2 t (x c o n1 n2 t e)
theorem ButL.of (s : ExtN H H') : ButL a H H' := fun c o _ _ t e => s c o e t
theorem tup_snoc : ∀ {ls : List PyData} {d : PyData}, tupDs ls = true → tupD d = true → tupDs (ls ++ [d]) = true
  | [], d, _, h => by
    show (tupD d && tupDs []) = true
    rw [h]
    rfl
  | e :: r, d, h, h' => by
    have h : (tupD e && tupDs r) = true := h
    obtain ⟨h1, h2⟩ := Bool.and_eq_true_iff.mp h
    show (tupD e && tupDs (r ++ [d])) = true
    rw [h1, tup_snoc h2 h']
    rfl
/-- the same, tables and all -/
def ButS (a : LdAd) (H H' : Hp) : Prop := ∀ c o, c ≠ a.b → c ≠ a.d → H c = some o → H' c = some o
theorem ButS.l (x : ButS a H H') : ButL a H H' := fun c o n1 n2 _ e => x c o n1 n2 e
/-- another book and another deed behind -/
theorem LdAt.add {b' : Addr} {v : V} {d : PyData} {E : Md} {bs : List Addr} {xs : List V} (h : LdAt K C CL H x a zs Es ls) (h1 : H a.b = some (.lst (bs.map V.ref))) (h2 : H a.d = some (.lst xs)) (hb : BookAt K C H b' (bkOf zs E)) (dv : Dt K H v d) (td : tupD d = true) :
    LdAt K C CL (upd (upd H a.b (.lst (bs.map V.ref ++ [.ref b']))) a.d (.lst (xs ++ [v]))) x a zs (Es ++ [E]) (ls ++ [d]) ∧ ButS a H (upd (upd H a.b (.lst (bs.map V.ref ++ [.ref b']))) a.d (.lst (xs ++ [v]))) := by
  obtain ⟨dx, hx⟩ := h.hx
  obtain ⟨bs', e1, e2, e3⟩ := h.hb
  obtain ⟨xs', t1, t2⟩ := h.hd
  rw [h1] at e1
  rw [h2] at t1
  cases t1
  have ebs : bs = bs' := by
    have e0 : bs.map V.ref = bs'.map V.ref := HO.lst.inj (Option.some.inj e1)
    have := congrArg (List.map fun v => match v with | V.ref q => q | _ => 0) e0
    simpa [List.map_map, Function.comp_def] using this
  subst ebs
  have k1 : Kp H (upd H a.b (.lst (bs.map V.ref ++ [.ref b']))) := (But.at (o := .lst (bs.map V.ref ++ [.ref b']))).kp h1
  have h2' : upd H a.b (.lst (bs.map V.ref ++ [.ref b'])) a.d = some (.lst xs) := by rw [upd_ne h.ne.symm]; exact h2
  have k12 : Kp H (upd (upd H a.b (.lst (bs.map V.ref ++ [.ref b']))) a.d (.lst (xs ++ [v]))) := k1.trans ((But.at (o := .lst (xs ++ [v]))).kp h2')
  have bl : ButS a H (upd (upd H a.b (.lst (bs.map V.ref ++ [.ref b']))) a.d (.lst (xs ++ [v]))) := fun c o n1 n2 e => by rw [upd_ne n2, upd_ne n1]; exact e
  have nx1 : x ≠ a.b := fun z => by rw [z, h1] at hx; cases hx
  have nx2 : x ≠ a.d := fun z => by rw [z, h2] at hx; cases hx
  refine ⟨⟨⟨dx, by rw [upd_ne nx2, upd_ne nx1]; exact hx⟩, ⟨bs ++ [b'], by rw [upd_ne h.ne, upd_same, List.map_append]; rfl, by rw [List.length_append, List.length_append, e2]; rfl, fun i c E' g1 g2 => ?_⟩, ⟨xs ++ [v], upd_same, (DtAll.keepT k12.kt _ h.tp t2).append (.cons (Dt.keepT k12.kt _ td dv) .nil)⟩, h.ne, tup_snoc h.tp td⟩, bl⟩
  by_cases hi : i < bs.length
  · rw [List.getElem?_append_left hi] at g1
    rw [List.getElem?_append_left (by omega)] at g2
    exact (e3 i c E' g1 g2).keep k12
  · have hi' : i = bs.length := by
      have := (List.getElem?_eq_some_iff.mp g1).1
      rw [List.length_append] at this
      have : i < bs.length + 1 := this
      omega
    subst hi'
    rw [List.getElem?_append_right (Nat.le_refl _), Nat.sub_self] at g1
    rw [e2, List.getElem?_append_right (Nat.le_refl _), Nat.sub_self] at g2
    cases g1
    cases g2
    exact hb.keep k12
end
section
variable {P : Program} {w : World} {K : PySem.W.Frag} {mg : Str → Option Value} {base : Heap}
/-! ### note_down -/
abbrev sLnd : Stmt := inLedger 1
theorem scLnd : FnScope ["self", "book", "deed"] ["self", "book", "deed"] (defScope sLnd) := ⟨rfl, rfl, rfl, by decide +kernel, rfl, by decide +kernel, by decide +kernel⟩
def spLnd (K : PySem.W.Frag) (C CL : Addr) : Sp := fun vs H Q _ => ∃ (x : Addr) (a : LdAd) (zs : List Str) (Es : List Md) (ls : List PyData) (b' : Addr) (v : V) (E : Md) (d : PyData), vs = [.ref x, .ref b', v] ∧ LdAt K C CL H x a zs Es ls ∧ BookAt K C H b' (bkOf zs E) ∧ Dt K H v d ∧ tupD d = true ∧ Es.length ≤ 500 ∧ ls.length ≤ 500 ∧
  ∀ H', ButS a H H' → (∀ T, Tabs T H → Tabs T H') → LdAt K C CL H' x a zs (Es ++ [E]) (ls ++ [d]) → Q .non H'
theorem ok_lnd {f C CL : Addr} {fd : FuncData} (F : Fun K "note_down" "Ledger.note_down" sLnd f fd) (TL : ClsL K CL) : FnOk P w K mg base CX0 1 f fd ["self", "book", "deed"] (spLnd K C CL) := by
  refine F.ok scLnd (fun vs H Q E h => ?_) (fun cdv A outer s H vs Q E hr h => ?_)
  · obtain ⟨_, _, _, _, _, _, _, _, _, rfl, _⟩ := h
    rfl
  · obtain ⟨x, a, zs, Es, ls, b', v, E1, d, rfl, hl, hb, dv, td, lE, lL, q⟩ := h
    refine ⟨_, pss_cons (ps_expr (pe_bm PySem.F.plainAttrs_list PySem.F.slot_list_append PySem.F.type_list_append mt_append (pe_fld (pv 0) rfl) (pa_cons (pv 1) pa_nil)))
      (pss_one (ps_expr (pe_bm PySem.F.plainAttrs_list PySem.F.slot_list_append PySem.F.type_list_append mt_append (pe_fld (pv 0) rfl) (pa_cons (pv 2) pa_nil)))), ?_⟩
    obtain ⟨dx, hx⟩ := hl.hx
    obtain ⟨bs, e1, e2, e3⟩ := hl.hb
    obtain ⟨xs, t1, t2⟩ := hl.hd
    have lxs : xs.length = ls.length := t2.len
    have nx1 : x ≠ a.b := fun z => by rw [z, e1] at hx; cases hx
    obtain ⟨r1, r2⟩ := hl.add e1 t1 hb dv td
    have hx' : upd H a.b (.lst (bs.map V.ref ++ [.ref b'])) x = some (.ins CL dx (lgV (.ref a.b) (.ref a.d))) := by rw [upd_ne nx1]; exact hx
    have t1' : upd H a.b (.lst (bs.map V.ref ++ [.ref b'])) a.d = some (.lst xs) := by rw [upd_ne hl.ne.symm]; exact t1
    refine ⟨.ref x, rfl, x, CL, dx, _, _, rfl, hx, TL.cl, TL.n1, lg_b, .inl ⟨rfl, _, .inl (.inl e1)⟩, .ref b', rfl, a.b, _, _, rfl, rfl, e1, small1000 (by rw [List.length_map]; omega), ?_⟩
    exact ⟨.ref x, rfl, x, CL, dx, _, _, rfl, hx', TL.cl, TL.n2, lg_d, .inl ⟨rfl, _, .inl (.inl t1')⟩, v, rfl, a.d, _, _, rfl, rfl, t1', small1000 (by omega), q _ r2 (fun T t => tabs_but (tabs_but t (But.at (o := .lst (bs.map V.ref ++ [.ref b']))) ⟨_, e1, (by intro ps z; cases z), lst_code⟩) (But.at (o := .lst (xs ++ [v]))) ⟨_, by rw [upd_ne hl.ne.symm]; exact t1, (by intro ps z; cases z), lst_code⟩) r1⟩
/-! ### book -/
abbrev sLbk2 : Stmt := inLedger 2
theorem scLbk2 : FnScope ["self"] ["self"] (defScope sLbk2) := ⟨rfl, rfl, rfl, by decide +kernel, rfl, by decide +kernel, by decide +kernel⟩
def spLgBk (K : PySem.W.Frag) (C CL : Addr) : Sp := fun vs H Q _ => ∃ (x : Addr) (a : LdAd) (zs : List Str) (Es : List Md) (ls : List PyData) (E : Md), vs = [.ref x] ∧ LdAt K C CL H x a zs (Es ++ [E]) ls ∧ ∀ b, BookAt K C H b (bkOf zs E) → Q (.ref b) H
theorem ok_lgbk {f C CL : Addr} {fd : FuncData} (F : Fun K "book" "Ledger.book" sLbk2 f fd) (TL : ClsL K CL) : FnOk P w K mg base CX0 1 f fd ["self"] (spLgBk K C CL) := by
  refine F.ok scLbk2 (fun vs H Q E h => ?_) (fun cdv A outer s H vs Q E hr h => ?_)
  · obtain ⟨_, _, _, _, _, _, rfl, _⟩ := h
    rfl
  · obtain ⟨x, a, zs, Es, ls, E1, rfl, hl, q⟩ := h
    refine ⟨_, pss_one (ps_ret (pe_ix ix_list (pe_fld (pv 0) rfl) (pe_un un_neg pe_int) (fun _ _ => rfl))), ?_⟩
    obtain ⟨dx, hx⟩ := hl.hx
    obtain ⟨bs, e1, e2, e3⟩ := hl.hb
    rw [List.length_append] at e2
    have e2 : bs.length = Es.length + 1 := e2
    obtain ⟨bs', b', rfl⟩ : ∃ bs' b', bs = bs' ++ [b'] := ⟨bs.dropLast, bs.getLast (fun z => by rw [z] at e2; cases e2), (List.dropLast_concat_getLast _).symm⟩
    rw [List.length_append] at e2
    have e2 : bs'.length + 1 = Es.length + 1 := e2
    have hb' := e3 Es.length b' E1 (by rw [List.getElem?_append_right (by omega), show Es.length - bs'.length = 0 by omega]; rfl) (by rw [List.getElem?_append_right (Nat.le_refl _), Nat.sub_self]; rfl)
    rw [List.map_append] at e1
    exact ⟨.ref x, rfl, x, CL, dx, _, _, rfl, hx, TL.cl, TL.n1, lg_b, _, rfl, a.b, _, -1, .ref b', rfl, rfl, .inl (.inl e1), atI_last _ _, q b' hb'⟩
/-! ### log, len -/
abbrev sLlg : Stmt := inLedger 3
theorem scLlg : FnScope ["self"] ["self"] (defScope sLlg) := ⟨rfl, rfl, rfl, by decide +kernel, rfl, by decide +kernel, by decide +kernel⟩
def spLgLog (K : PySem.W.Frag) (C CL : Addr) : Sp := fun vs H Q _ => ∃ (x : Addr) (a : LdAd) (zs : List Str) (Es : List Md) (ls : List PyData), vs = [.ref x] ∧ LdAt K C CL H x a zs Es ls ∧ ∀ r xs H', Same H H' → H r = none → H' r = some (.lst xs) → DtAll K H' xs ls → Q (.ref r) H'
theorem ok_lglog {f C CL : Addr} {fd : FuncData} (F : Fun K "log" "Ledger.log" sLlg f fd) (TL : ClsL K CL) (B3 : Blt3 mg) : FnOk P w K mg base CX0 1 f fd ["self"] (spLgLog K C CL) := by
  refine F.ok scLlg (fun vs H Q E h => ?_) (fun cdv A outer s H vs Q E hr h => ?_)
  · obtain ⟨_, _, _, _, _, rfl, _⟩ := h
    rfl
  · obtain ⟨x, a, zs, Es, ls, rfl, hl, q⟩ := h
    refine ⟨_, pss_one (ps_ret (pe_callTy (call_listS rfl) (by rfl) B3.list (by decide +kernel) (pa_cons (pe_fld (pv 0) rfl) pa_nil))), ?_⟩
    obtain ⟨dx, hx⟩ := hl.hx
    obtain ⟨xs, t1, t2⟩ := hl.hd
    exact ⟨.ref x, rfl, x, CL, dx, _, _, rfl, hx, TL.cl, TL.n2, lg_d, a.d, _, rfl, .inl (.inl (.inl t1)), fun r nr => q r xs _ (same_upd nr) nr upd_same (DtAll.same (same_upd nr) _ t2)⟩
end
end Rc

namespace Rc
open PySem PySem.Spec PyProof.Rows L2 RZ LamX
def seD : PyData := .tuple [.str "settle"]
theorem idx_at {zs : List Str} {z : Str} (h : z ∈ zs) : zs[zs.idxOf z]? = some z := idx_get h
section
variable {P : Program} {w : World} {K : PySem.W.Frag} {mg : Str → Option Value} {base : Heap}
/-! ### put -/
abbrev sLgP : Stmt := inLedger 4
theorem scLgP : FnScope ["self", "who", "to", "amount"] ["self", "who", "to", "amount"] (defScope sLgP) := ⟨rfl, rfl, rfl, by decide +kernel, rfl, by decide +kernel, by decide +kernel⟩
def spLgP (K : PySem.W.Frag) (C CL : Addr) : Sp := fun vs H Q _ => ∃ (x : Addr) (a : LdAd) (zs : List Str) (Es : List Md) (ls : List PyData) (E : Md) (z y : Str) (m : Int), vs = [.ref x, .str z, .str y, .int m] ∧ LdAt K C CL H x a zs (Es ++ [E]) ls ∧ Gs zs E ∧ z ∈ zs ∧ y ∈ zs ∧ 1 ≤ m ∧ manyM (bkOf zs E) < 60 ∧ Es.length ≤ 400 ∧ ls.length ≤ 400 ∧
  ∀ H', ButL a H H' → (∀ T, Tabs T H → Tabs T H') → LdAt K C CL H' x a zs (Es ++ [E] ++ [doneD zs E (.put z y m)]) (ls ++ [deedD (.put z y m)]) → Q .non H'
theorem ok_lgP {f f1 f2 f3 C CL : Addr} {fd fd1 fd2 fd3 : FuncData} (F : Fun K "put" "Ledger.put" sLgP f fd) (T : ClsF K C) (TL : ClsL K CL) (ND : HasM P w K mg base CL 1 "note_down" ["self", "book", "deed"] (spLnd K C CL) f1 fd1) (BO : HasM P w K mg base CL 1 "book" ["self"] (spLgBk K C CL) f2 fd2) (PU : HasM P w K mg base C 6 "put" ["self", "who", "to", "amount"] (spPut K C) f3 fd3) :
    FnOk P w K mg base CX0 7 f fd ["self", "who", "to", "amount"] (spLgP K C CL) := by
  refine F.ok scLgP (fun vs H Q E h => ?_) (fun cdv A outer s H vs Q E hr h => ?_)
  · obtain ⟨_, _, _, _, _, _, _, _, _, rfl, _⟩ := h
    rfl
  · obtain ⟨x, a, zs, Es, ls, E1, z, y, m, rfl, hl, g, hz, hy, m1, my, lE, lL, q⟩ := h
    have hr1 := hr.mono (show 1 ≤ 6 by decide)
    refine ⟨_, pss_one (ps_expr (pe_meth (pv 0) TL.cl ND.m ND.ok hr1 ND.b .nil pass0 (pa_cons (pe_meth (pe_meth0 (pv 0) TL.cl BO.m BO.ok hr1 BO.b .nil pass0) T.cl PU.m PU.ok hr PU.b .nil pass0 (pa_cons (pv 1) (pa_cons (pv 2) (pa_cons (pv 3) pa_nil)))) (pa_cons (pe_tup (pa_cons pe_str (pa_cons (pv 1) (pa_cons (pv 2) (pa_cons (pv 3) pa_nil))))) pa_nil)))), ?_⟩
    obtain ⟨dx, hx⟩ := hl.hx
    refine ⟨.ref x, rfl, x, dx, _, rfl, hx, lg_no (NoFL.mk' (by decide +kernel)), .ref x, rfl, x, dx, _, rfl, hx, lg_no (NoFL.mk' (by decide +kernel)), x, a, zs, Es, ls, E1, rfl, hl, fun b hb => ?_⟩
    obtain ⟨dxb, tn, on, wg, ws, wd, e, _⟩ := hb.ex
    refine ⟨b, dxb, _, rfl, e, bf_no (NoF.mk' (by decide +kernel)), .str z, rfl, .str y, rfl, .int m, rfl, b, bkOf zs E1, z, y, zs.idxOf z, zs.idxOf y, m, rfl, hb, g.ok, idx_at hz, idx_at hy, m1, my, fun b' H1 s1 nb hb' => ?_⟩
    refine ⟨.str z, rfl, .str y, rfl, .int m, rfl, by show 4 ≤ sizeLine; decide, fun t nt => ?_⟩
    have st := same_upd (o := .tup [V.str "put", .str z, .str y, .int m]) nt
    have ht : upd H1 t (.tup [V.str "put", .str z, .str y, .int m]) t = some (.tup [V.str "put", .str z, .str y, .int m]) := upd_same
    have s2 := s1.trans st
    refine ⟨x, a, zs, Es ++ [E1], ls, b', .ref t, doneD zs E1 (.put z y m), deedD (.put z y m), rfl, hl.same s2, book_same hb' st, dt_put ht, tup_deed _, by rw [List.length_append]; simp; omega, by omega, fun H3 b3 t3 hl3 => ?_⟩
    exact q H3 ((ButL.of (ExtN.of s2)).trans b3.l) (fun T t => t3 T (t.ext s2)) hl3
/-! ### give -/
abbrev sLgG : Stmt := inLedger 5
theorem scLgG : FnScope ["self", "who", "amount"] ["self", "who", "amount"] (defScope sLgG) := ⟨rfl, rfl, rfl, by decide +kernel, rfl, by decide +kernel, by decide +kernel⟩
def spLgG (K : PySem.W.Frag) (C CL : Addr) : Sp := fun vs H Q _ => ∃ (x : Addr) (a : LdAd) (zs : List Str) (Es : List Md) (ls : List PyData) (E : Md) (z : Str) (m : Int), vs = [.ref x, .str z, .int m] ∧ LdAt K C CL H x a zs (Es ++ [E]) ls ∧ Gs zs E ∧ z ∈ zs ∧ 1 ≤ m ∧ Es.length ≤ 400 ∧ ls.length ≤ 400 ∧
  ∀ H', ButL a H H' → (∀ T, Tabs T H → Tabs T H') → LdAt K C CL H' x a zs (Es ++ [E] ++ [doneD zs E (.give z m)]) (ls ++ [deedD (.give z m)]) → Q .non H'
theorem ok_lgG {f f1 f2 f3 C CL : Addr} {fd fd1 fd2 fd3 : FuncData} (F : Fun K "give" "Ledger.give" sLgG f fd) (T : ClsF K C) (TL : ClsL K CL) (ND : HasM P w K mg base CL 1 "note_down" ["self", "book", "deed"] (spLnd K C CL) f1 fd1) (BO : HasM P w K mg base CL 1 "book" ["self"] (spLgBk K C CL) f2 fd2) (GE : HasM P w K mg base C 6 "give" ["self", "who", "amount"] (spGive K C) f3 fd3) :
    FnOk P w K mg base CX0 7 f fd ["self", "who", "amount"] (spLgG K C CL) := by
  refine F.ok scLgG (fun vs H Q E h => ?_) (fun cdv A outer s H vs Q E hr h => ?_)
  · obtain ⟨_, _, _, _, _, _, _, _, rfl, _⟩ := h
    rfl
  · obtain ⟨x, a, zs, Es, ls, E1, z, m, rfl, hl, g, hz, m1, lE, lL, q⟩ := h
    have hr1 := hr.mono (show 1 ≤ 6 by decide)
    refine ⟨_, pss_one (ps_expr (pe_meth (pv 0) TL.cl ND.m ND.ok hr1 ND.b .nil pass0 (pa_cons (pe_meth (pe_meth0 (pv 0) TL.cl BO.m BO.ok hr1 BO.b .nil pass0) T.cl GE.m GE.ok hr GE.b .nil pass0 (pa_cons (pv 1) (pa_cons (pv 2) pa_nil))) (pa_cons (pe_tup (pa_cons pe_str (pa_cons (pv 1) (pa_cons (pv 2) pa_nil)))) pa_nil)))), ?_⟩
    obtain ⟨dx, hx⟩ := hl.hx
    refine ⟨.ref x, rfl, x, dx, _, rfl, hx, lg_no (NoFL.mk' (by decide +kernel)), .ref x, rfl, x, dx, _, rfl, hx, lg_no (NoFL.mk' (by decide +kernel)), x, a, zs, Es, ls, E1, rfl, hl, fun b hb => ?_⟩
    obtain ⟨dxb, tn, on, wg, ws, wd, e, _⟩ := hb.ex
    refine ⟨b, dxb, _, rfl, e, bf_no (NoF.mk' (by decide +kernel)), .str z, rfl, .int m, rfl, b, bkOf zs E1, z, zs.idxOf z, m, rfl, hb, g.ok, idx_at hz, m1, fun b' H1 s1 nb hb' => ?_⟩
    refine ⟨.str z, rfl, .int m, rfl, by show 3 ≤ sizeLine; decide, fun t nt => ?_⟩
    have st := same_upd (o := .tup [V.str "give", .str z, .int m]) nt
    have ht : upd H1 t (.tup [V.str "give", .str z, .int m]) t = some (.tup [V.str "give", .str z, .int m]) := upd_same
    have s2 := s1.trans st
    refine ⟨x, a, zs, Es ++ [E1], ls, b', .ref t, doneD zs E1 (.give z m), deedD (.give z m), rfl, hl.same s2, book_same hb' st, dt_give ht, tup_deed _, by rw [List.length_append]; simp; omega, by omega, fun H3 b3 t3 hl3 => ?_⟩
    exact q H3 ((ButL.of (ExtN.of s2)).trans b3.l) (fun T t => t3 T (t.ext s2)) hl3
/-! ### step -/
abbrev sLgS : Stmt := inLedger 6
theorem scLgS : FnScope ["self", "step"] ["self", "step"] (defScope sLgS) := ⟨rfl, rfl, rfl, by decide +kernel, rfl, by decide +kernel, by decide +kernel⟩
def spLgS (K : PySem.W.Frag) (C CL : Addr) : Sp := fun vs H Q _ => ∃ (x : Addr) (a : LdAd) (zs : List Str) (Es : List Md) (ls : List PyData) (E : Md) (t : Addr) (wd z : Str) (m : Int) (r : List Str), vs = [.ref x, .ref t] ∧ LdAt K C CL H x a zs (Es ++ [E]) ls ∧ H t = some (.tup [.str wd, .str z, .int m]) ∧ CanD zs E wd z m r ∧ Es.length ≤ 400 ∧ ls.length ≤ 400 ∧
  ∀ H', ButL a H H' → (∀ T, Tabs T H → Tabs T H') → LdAt K C CL H' x a zs (Es ++ [E] ++ [fallAll zs E r m]) (ls ++ [stepD3 (wd, z, m)]) → Q .non H'
theorem ok_lgS {f f1 f2 f3 C CL : Addr} {fd fd1 fd2 fd3 : FuncData} (F : Fun K "step" "Ledger.step" sLgS f fd) (TL : ClsL K CL) (ND : HasM P w K mg base CL 1 "note_down" ["self", "book", "deed"] (spLnd K C CL) f1 fd1) (BO : HasM P w K mg base CL 1 "book" ["self"] (spLgBk K C CL) f2 fd2) (ST : Has P w K mg base 10 "stepped" ["book", "step"] (spSt K C) f3 fd3) :
    FnOk P w K mg base CX0 11 f fd ["self", "step"] (spLgS K C CL) := by
  refine F.ok scLgS (fun vs H Q E h => ?_) (fun cdv A outer s H vs Q E hr h => ?_)
  · obtain ⟨_, _, _, _, _, _, _, _, _, _, _, rfl, _⟩ := h
    rfl
  · obtain ⟨x, a, zs, Es, ls, E1, t, wd, z, m, r, rfl, hl, ht, cd, lE, lL, q⟩ := h
    have hr1 := hr.mono (show 1 ≤ 10 by decide)
    refine ⟨_, pss_one (ps_expr (pe_meth (pv 0) TL.cl ND.m ND.ok hr1 ND.b .nil pass0 (pa_cons (pe_call ST.ok hr (by rfl) ST.g ST.kp ST.b .nil pass0 (pa_cons (pe_meth0 (pv 0) TL.cl BO.m BO.ok hr1 BO.b .nil pass0) (pa_cons (pv 1) pa_nil))) (pa_cons (pv 1) pa_nil)))), ?_⟩
    obtain ⟨dx, hx⟩ := hl.hx
    refine ⟨.ref x, rfl, x, dx, _, rfl, hx, lg_no (NoFL.mk' (by decide +kernel)), .ref x, rfl, x, dx, _, rfl, hx, lg_no (NoFL.mk' (by decide +kernel)), x, a, zs, Es, ls, E1, rfl, hl, fun b hb => ?_⟩
    refine ⟨.ref t, rfl, ?_⟩
    have dv : ∀ {H1 : Hp}, Same H H1 → Dt K H1 (.ref t) (stepD3 (wd, z, m)) := fun s1 => .tup (.inl (.inl (s1 _ _ ht))) (.cons (.str _) (.cons (.str _) (.cons (.int _) .nil)))
    have td : tupD (stepD3 (wd, z, m)) = true := by simp [stepD3, tupD, tupDs]
    have go : ∀ b' H1, Same H H1 → BookAt K C H1 b' (bkOf zs (fallAll zs E1 r m)) → ∃ (x' : Addr) (a' : LdAd) (zs' : List Str) (Es' : List Md) (ls' : List PyData) (b'' : Addr) (v : V) (E' : Md) (d : PyData), [V.ref x, .ref b', .ref t] = [.ref x', .ref b'', v] ∧ LdAt K C CL H1 x' a' zs' Es' ls' ∧ BookAt K C H1 b'' (bkOf zs' E') ∧ Dt K H1 v d ∧ tupD d = true ∧ Es'.length ≤ 500 ∧ ls'.length ≤ 500 ∧
        ∀ H', ButS a' H1 H' → (∀ T, Tabs T H1 → Tabs T H') → LdAt K C CL H' x' a' zs' (Es' ++ [E']) (ls' ++ [d]) → Q .non H' := fun b' H1 s1 hb' =>
      ⟨x, a, zs, Es ++ [E1], ls, b', .ref t, fallAll zs E1 r m, stepD3 (wd, z, m), rfl, hl.same s1, hb', dv s1, td, by rw [List.length_append]; simp; omega, by omega, fun H3 b3 t3 hl3 => q H3 ((ButL.of (ExtN.of s1)).trans b3.l) (fun T t => t3 T (t.ext s1)) hl3⟩
    have wv := cd.wv
    generalize bkOf zs (fallAll zs E1 r m) = N at wv go
    cases wv with
    | pay ok ej m1 mm fo h' =>
      cases h'
      exact .inl ⟨b, t, bkOf zs E1, _, _, _, rfl, ht, hb, ok, ej, m1, mm, fo, fun b' H1 s1 nb hb' => ⟨.ref t, rfl, go b' H1 s1 hb'⟩⟩
    | clear co h' =>
      cases h'
      exact .inr ⟨b, t, bkOf zs E1, _, _, _, rfl, ht, hb, co, fun b' H1 s1 nb hb' => ⟨.ref t, rfl, go b' H1 s1 hb'⟩⟩
/-! ### settle -/
abbrev sLgE : Stmt := inLedger 8
theorem scLgE : FnScope ["self"] ["self"] (defScope sLgE) := ⟨rfl, rfl, rfl, by decide +kernel, rfl, by decide +kernel, by decide +kernel⟩
def spLgE (K : PySem.W.Frag) (C CL : Addr) (T : List (Addr × Str)) : Sp := fun vs H Q _ => ∃ (x : Addr) (a : LdAd) (zs : List Str) (Es : List Md) (ls : List PyData) (E : Md), vs = [.ref x] ∧ LdAt K C CL H x a zs (Es ++ [E]) ls ∧ Gs zs E ∧ Gb E ∧ Tabs T H ∧ Es.length ≤ 400 ∧ ls.length ≤ 400 ∧
  ∀ E' H', ButL a H H' → Tabs T H' → LdAt K C CL H' x a zs (Es ++ [E] ++ [E']) (ls ++ [seD]) → Gs zs E' → Gb E' → E'.given = E.given → E'.notes = E.notes → Settled zs E' → Q .non H'
theorem ok_lgE {f f1 f2 f3 C CL : Addr} {fd fd1 fd2 fd3 : FuncData} {T : List (Addr × Str)} (F : Fun K "settle" "Ledger.settle" sLgE f fd) (TL : ClsL K CL) (ND : HasM P w K mg base CL 1 "note_down" ["self", "book", "deed"] (spLnd K C CL) f1 fd1) (BO : HasM P w K mg base CL 1 "book" ["self"] (spLgBk K C CL) f2 fd2) (SE : Has P w K mg base 9 "settled_book" ["book"] (spSet K C T) f3 fd3) :
    FnOk P w K mg base CX0 10 f fd ["self"] (spLgE K C CL T) := by
  refine F.ok scLgE (fun vs H Q E h => ?_) (fun cdv A outer s H vs Q E hr h => ?_)
  · obtain ⟨_, _, _, _, _, _, rfl, _⟩ := h
    rfl
  · obtain ⟨x, a, zs, Es, ls, E1, rfl, hl, g, gb, tT, lE, lL, q⟩ := h
    have hr1 := hr.mono (show 1 ≤ 9 by decide)
    refine ⟨_, pss_one (ps_expr (pe_meth (pv 0) TL.cl ND.m ND.ok hr1 ND.b .nil pass0 (pa_cons (pe_call SE.ok hr (by rfl) SE.g SE.kp SE.b .nil pass0 (pa_cons (pe_meth0 (pv 0) TL.cl BO.m BO.ok hr1 BO.b .nil pass0) pa_nil)) (pa_cons (pe_tup (pa_cons pe_str pa_nil)) pa_nil)))), ?_⟩
    obtain ⟨dx, hx⟩ := hl.hx
    refine ⟨.ref x, rfl, x, dx, _, rfl, hx, lg_no (NoFL.mk' (by decide +kernel)), .ref x, rfl, x, dx, _, rfl, hx, lg_no (NoFL.mk' (by decide +kernel)), x, a, zs, Es, ls, E1, rfl, hl, fun b hb => ?_⟩
    refine ⟨b, zs, E1, rfl, hb, g, gb, tT, fun b' E' H1 e1 t1 nb hb' gE gbE eg en st => ⟨by show 1 ≤ sizeLine; decide, fun t nt => ?_⟩⟩
    have s1 := same_upd (o := .tup [V.str "settle"]) nt
    have ht : upd H1 t (.tup [V.str "settle"]) t = some (.tup [V.str "settle"]) := upd_same
    refine ⟨x, a, zs, Es ++ [E1], ls, b', .ref t, E', seD, rfl, (hl.ext e1).same s1, book_same hb' s1, .tup (.inl (.inl ht)) (.cons (.str _) .nil), rfl, by rw [List.length_append]; simp; omega, by omega, fun H3 b3 t3 hl3 => ?_⟩
    exact q E' H3 (((ButL.of e1).trans (ButL.of (ExtN.of s1))).trans b3.l) (t3 T (t1.ext s1)) hl3 gE gbE eg en st
end
end Rc

namespace Rc
open PySem PySem.Spec PyProof.Rows L2 RZ LamX
theorem lput1 (a : V) : putF "books" a [] = ([("books", a)] : List (Str × V)) := rfl
theorem lput2 (a b : V) : putF "deeds" b [("books", a)] = lgV a b := by
  show (if ("books" : Str) = "deeds" then _ else _) = _
  rw [if_neg (by decide +kernel)]
  rfl
theorem book_bx {K : PySem.W.Frag} {C CL : Addr} {H H' : Hp} {x b dx : Addr} {fs : List (Str × V)} {M : Bk} (hb : BookAt K C H b M) (s : But x H H') (hx : H x = some (.ins CL dx fs)) (n : b ≠ x) : BookAt K C H' b M := by
  obtain ⟨dx', tn, on, wg, ws, wd, e, h1, hn, h2, h3, h4⟩ := hb.ex
  have kt : KT H H' := fun c o e t => s c o (fun z => by rw [z, hx] at e; cases e; exact t) e
  exact ⟨dx', tn, on, wg, ws, wd, s _ _ n e, kt _ _ h1 trivial, hn, Dt.keepT kt _ (tup_ints _) h2, Dt.keepT kt _ (tup_stacks _) h3, Dt.keepT kt _ (tup_ints _) h4⟩
section
variable {P : Program} {w : World} {K : PySem.W.Frag} {mg : Str → Option Value} {base : Heap}
/-! ### __init__ -/
abbrev sLgI : Stmt := inLedger 0
theorem scLgI : FnScope ["self", "persons"] ["self", "persons"] (defScope sLgI) := ⟨rfl, rfl, rfl, by decide +kernel, rfl, by decide +kernel, by decide +kernel⟩
def spLgI (K : PySem.W.Frag) (C CL : Addr) : Sp := fun vs H Q _ => ∃ (x dx nl : Addr) (zs : List Str), vs = [.ref x, .ref nl] ∧ H x = some (.ins CL dx []) ∧ H nl = some (.lst (zs.map V.str)) ∧ NamesOk zs ∧ ∀ a H', But x H H' → H a.b = none → H a.d = none → LdAt K C CL H' x a zs [mdAt zs []] [] → Q .non H'
theorem ok_lgI {f fI C CL : Addr} {fd fdI : FuncData} (F : Fun K "__init__" "Ledger.__init__" sLgI f fd) (TL : ClsL K CL) (M : Mk K C fI) (gC : mg "Book" = some (.ref C)) (GI : FnOk P w K mg base CX0 3 fI fdI ["self", "persons"] (spInit K C)) (bI : Binds K fdI ["self", "persons"] []) :
    FnOk P w K mg base CX0 5 f fd ["self", "persons"] (spLgI K C CL) := by
  refine F.ok scLgI (fun vs H Q E h => ?_) (fun cdv A outer s H vs Q E hr h => ?_)
  · obtain ⟨_, _, _, _, rfl, _⟩ := h
    rfl
  · obtain ⟨x, dx, nl, zs, rfl, hx, hn, nz, q⟩ := h
    refine ⟨_, pss_cons (ps_fld (pv 0) (pe_lst (pa_cons (pe_make M GI hr (by rfl) gC bI .nil pass0 (pa_cons (pv 1) pa_nil)) pa_nil)) rfl) (pss_one (ps_fld (pv 0) (pe_lst pa_nil) rfl)), ?_⟩
    refine ⟨.ref nl, rfl, fun y dy ny ndy nyy => ?_⟩
    have s1 : Same H (upd (upd H dy (.own y)) y (.ins C dy [])) := fun c o e => by
      rw [upd_ne (ne_of_none e ny), upd_ne (ne_of_none e ndy)]
      exact e
    refine ⟨y, dy, nl, zs, rfl, upd_same, s1 _ _ hn, nz, fun H2 b2 bk => ⟨rfl, by show 1 ≤ sizeLine; decide, fun l nl2 => ?_⟩⟩
    have s2 : Same H H2 := fun c o e => b2 c o (ne_of_none e ny) (s1 c o e)
    have bk0 : BookAt K C H2 y (bkOf zs (mdAt zs [])) := bk
    have s3 := same_upd (o := .lst [V.ref y]) nl2
    have hl3 : upd H2 l (.lst [V.ref y]) l = some (.lst [V.ref y]) := upd_same
    have bk3 := book_same bk0 s3
    have hx3 := s3 _ _ (s2 _ _ hx)
    have s03 := s2.trans s3
    have yx : y ≠ x := fun z => by
      rw [z, hx] at ny
      cases ny
    have nlH : H l = none := s2.free nl2
    generalize upd H2 l (.lst [V.ref y]) = H3 at s3 hl3 bk3 hx3 s03
    refine ⟨.ref x, rfl, x, CL, dx, _, rfl, hx3, TL.cl, TL.n1, by show 0 < 1000; decide, ?_⟩
    rw [lput1]
    have b4 : But x H3 (upd H3 x (.ins CL dx [("books", V.ref l)])) := But.at
    have hx4 : upd H3 x (.ins CL dx [("books", V.ref l)]) x = some (.ins CL dx [("books", V.ref l)]) := upd_same
    have lx : l ≠ x := fun z => by rw [z, hx] at nlH; cases nlH
    have bk4 := book_bx bk3 b4 hx3 yx
    have hl4 := b4 _ _ lx hl3
    generalize upd H3 x (.ins CL dx [("books", V.ref l)]) = H4 at b4 hx4 bk4 hl4
    refine ⟨Nat.zero_le _, fun d nd => ?_⟩
    have s5 := same_upd (o := .lst []) nd
    have hd5 : upd H4 d (.lst []) d = some (.lst []) := upd_same
    have hl5 := s5 _ _ hl4
    have bk5 := book_same bk4 s5
    have hx5 := s5 _ _ hx4
    have dx' : d ≠ x := (ne_of_none hx4 nd).symm
    have dl : l ≠ d := ne_of_none hl4 nd
    have nd3 : H3 d = none := by
      cases e : H3 d with
      | none => rfl
      | some o =>
        have := b4 _ _ dx' e
        rw [nd] at this
        cases this
    generalize upd H4 d (.lst []) = H5 at s5 hd5 hl5 bk5 hx5
    refine ⟨.ref x, rfl, x, CL, dx, _, rfl, hx5, TL.cl, TL.n2, by show 1 < 1000; decide, ?_⟩
    rw [lput2]
    have b6 : But x H5 (upd H5 x (.ins CL dx (lgV (.ref l) (.ref d)))) := But.at
    refine q ⟨l, d⟩ _ (fun c o n e => b6 _ _ n (s5 _ _ (b4 _ _ n (s03 _ _ e)))) nlH (s03.free nd3) ⟨⟨dx, upd_same⟩, ⟨[y], b6 _ _ lx hl5, rfl, fun i b E' g1 g2 => ?_⟩, ⟨[], b6 _ _ dx' hd5, .nil⟩, dl, rfl⟩
    cases i with
    | zero =>
      cases g1
      cases g2
      exact book_bx bk5 b6 hx5 yx
    | succ i => cases g1
/-! ### len -/
abbrev sLgL : Stmt := inLedger 11
theorem scLgL : FnScope ["self"] ["self"] (defScope sLgL) := ⟨rfl, rfl, rfl, by decide +kernel, rfl, by decide +kernel, by decide +kernel⟩
def spLgL (K : PySem.W.Frag) (C CL : Addr) : Sp := fun vs H Q _ => ∃ (x : Addr) (a : LdAd) (zs : List Str) (Es : List Md) (ls : List PyData), vs = [.ref x] ∧ LdAt K C CL H x a zs Es ls ∧ Q (.int (ls.length : Nat)) H
theorem ok_lgL {f C CL : Addr} {fd : FuncData} (F : Fun K "__len__" "Ledger.__len__" sLgL f fd) (TL : ClsL K CL) (B : Blt mg) : FnOk P w K mg base CX0 1 f fd ["self"] (spLgL K C CL) := by
  refine F.ok scLgL (fun vs H Q E h => ?_) (fun cdv A outer s H vs Q E hr h => ?_)
  · obtain ⟨_, _, _, _, _, rfl, _⟩ := h
    rfl
  · obtain ⟨x, a, zs, Es, ls, rfl, hl, q⟩ := h
    refine ⟨_, pss_one (ps_ret (pe_callB call_len_seq (by rfl) B.len PySem.boot_len (pa_cons (pe_fld (pv 0) rfl) pa_nil))), ?_⟩
    obtain ⟨dx, hx⟩ := hl.hx
    obtain ⟨xs, t1, t2⟩ := hl.hd
    refine ⟨.ref x, rfl, x, CL, dx, _, _, rfl, hx, TL.cl, TL.n2, lg_d, a.d, xs, rfl, .inl (.inl (.inl t1)), ?_⟩
    rw [show xs.length = ls.length from t2.len]
    exact q
end
end Rc

namespace Rc
open PySem PySem.Spec PyProof.Rows L2 RZ LamX
theorem rput_b (a b c : V) : putF "books" c (lgV a b) = lgV c b := rfl
theorem rput_d (a b c : V) : putF "deeds" c (lgV a b) = lgV a c := by
  show (if ("books" : Str) = "deeds" then _ else _) = _
  rw [if_neg (by decide +kernel)]
  rfl
section
variable {P : Program} {w : World} {K : PySem.W.Frag} {mg : Str → Option Value} {base : Heap}
/-! ### copied -/
abbrev sLgC : Stmt := inLedger 10
theorem scLgC : FnScope ["self", "other"] ["self"] (defScope sLgC) := ⟨rfl, rfl, rfl, by decide +kernel, rfl, by decide +kernel, by decide +kernel⟩
def spLgC (K : PySem.W.Frag) (C CL : Addr) : Sp := fun vs H Q _ => ∃ (x : Addr) (a : LdAd) (zs : List Str) (Es : List Md) (ls : List PyData) (E : Md), vs = [.ref x] ∧ LdAt K C CL H x a zs (Es ++ [E]) ls ∧ NamesOk zs ∧
  ∀ x' a' H', Same H H' → H x' = none → H a'.b = none → H a'.d = none → LdAt K C CL H' x' a' zs (Es ++ [E]) ls → Q (.ref x') H'
theorem ok_lgC {f f1 f2 fI C CL : Addr} {fd fd1 fd2 fdI : FuncData} (F : Fun K "copied" "Ledger.copied" sLgC f fd) (T : ClsF K C) (TL : ClsL K CL) (B3 : Blt3 mg) (BO : HasM P w K mg base CL 1 "book" ["self"] (spLgBk K C CL) f1 fd1) (PS' : HasM P w K mg base C 1 "persons" ["self"] (spPersons K C) f2 fd2)
    (ML : Mk K CL fI) (gL : mg "Ledger" = some (.ref CL)) (GL : FnOk P w K mg base CX0 5 fI fdI ["self", "persons"] (spLgI K C CL)) (bL : Binds K fdI ["self", "persons"] []) :
    FnOk P w K mg base CX0 7 f fd ["self"] (spLgC K C CL) := by
  refine F.ok scLgC (fun vs H Q E h => ?_) (fun cdv A outer s H vs Q E hr h => ?_)
  · obtain ⟨_, _, _, _, _, _, rfl, _⟩ := h
    rfl
  · obtain ⟨x, a, zs, Es, ls, E1, rfl, hl, nz, q⟩ := h
    have hr1 := hr.mono (show 1 ≤ 6 by decide)
    refine ⟨_, pss_cons (ps_set (i := 1) scLgC.nd rfl (.inl rfl) (pe_make ML GL hr (by rfl) gL bL .nil pass0 (pa_cons (pe_meth0 (pe_meth0 (pv 0) TL.cl BO.m BO.ok hr1 BO.b .nil pass0) T.cl PS'.m PS'.ok hr1 PS'.b .nil pass0) pa_nil)))
      (pss_cons (ps_fld (pv 1) (pe_callTy (call_listS rfl) (by rfl) B3.list (by decide +kernel) (pa_cons (pe_fld (pv 0) rfl) pa_nil)) rfl)
      (pss_cons (ps_fld (pv 1) (pe_callTy (call_listS rfl) (by rfl) B3.list (by decide +kernel) (pa_cons (pe_fld (pv 0) rfl) pa_nil)) rfl)
      (pss_one (ps_ret (pv 1))))), ?_⟩
    obtain ⟨dx, hx⟩ := hl.hx
    obtain ⟨bs, e1, e2, e3⟩ := hl.hb
    obtain ⟨xs, t1, t2⟩ := hl.hd
    refine ⟨.ref x, rfl, x, dx, _, rfl, hx, lg_no (NoFL.mk' (by decide +kernel)), x, a, zs, Es, ls, E1, rfl, hl, fun b hb => ?_⟩
    obtain ⟨dxb, tn, on, wg, ws, wd, eb, _⟩ := hb.ex
    refine ⟨b, dxb, _, rfl, eb, bf_no (NoF.mk' (by decide +kernel)), b, _, rfl, hb, fun nl nnl => ?_⟩
    have s1 := same_upd (o := .lst (zs.map V.str)) nnl
    have hn1 : upd H nl (.lst (zs.map V.str)) nl = some (.lst (zs.map V.str)) := upd_same
    rw [show (bkOf zs E1).names = zs from rfl]
    generalize upd H nl (.lst (zs.map V.str)) = H1 at s1 hn1
    refine fun y dy ny ndy nyy => ?_
    have s2 : Same H1 (upd (upd H1 dy (.own y)) y (.ins CL dy [])) := fun c o e => by
      rw [upd_ne (ne_of_none e ny), upd_ne (ne_of_none e ndy)]
      exact e
    refine ⟨y, dy, nl, zs, rfl, upd_same, s2 _ _ hn1, nz, fun a0 H3 b3 na1 na2 hl3 => ⟨rfl, ?_⟩⟩
    have s3 : Same H1 H3 := fun c o e => b3 c o (ne_of_none e ny) (s2 c o e)
    have s03 := s1.trans s3
    have nyH : H y = none := s1.free ny
    obtain ⟨dy', hy3⟩ := hl3.hx
    have hx3 := s03 _ _ hx
    have e13 := s03 _ _ e1
    have t13 := s03 _ _ t1
    have t23 := DtAll.same s03 _ t2
    have bk3 : ∀ (i : Nat) (b : Addr) (E : Md), bs[i]? = some b → (Es ++ [E1])[i]? = some E → b ≠ y ∧ BookAt K C H3 b (bkOf zs E) := fun i b E g1 g2 => by
      have h := e3 i b E g1 g2
      refine ⟨fun z => ?_, book_same h s03⟩
      obtain ⟨_, _, _, _, _, _, e, _⟩ := h.ex
      rw [z, nyH] at e
      cases e
    -- the books
    refine ⟨.ref x, rfl, x, CL, dx, _, _, rfl, hx3, TL.cl, TL.n1, lg_b, a.b, _, rfl, .inl (.inl (.inl e13)), fun l nl4 => ?_⟩
    have s4 := same_upd (o := .lst (bs.map V.ref)) nl4
    have hl4 : upd H3 l (.lst (bs.map V.ref)) l = some (.lst (bs.map V.ref)) := upd_same
    have hy4 := s4 _ _ hy3
    have nlH : H l = none := s03.free nl4
    have ly : l ≠ y := (ne_of_none hy3 nl4).symm
    generalize upd H3 l (.lst (bs.map V.ref)) = H4 at s4 hl4 hy4
    refine ⟨.ref y, rfl, y, CL, dy', _, rfl, hy4, TL.cl, TL.n1, by show 2 < 1000; decide, ?_⟩
    rw [rput_b]
    have b5 : But y H4 (upd H4 y (.ins CL dy' (lgV (.ref l) (.ref a0.d)))) := But.at
    have hy5 : upd H4 y (.ins CL dy' (lgV (.ref l) (.ref a0.d))) y = some (.ins CL dy' (lgV (.ref l) (.ref a0.d))) := upd_same
    have hl5 := b5 _ _ ly hl4
    have xy : x ≠ y := fun z => by rw [← z, hx] at nyH; cases nyH
    have dy5 : a.d ≠ y := fun z => by rw [← z, t1] at nyH; cases nyH
    have hx5 := b5 _ _ xy (s4 _ _ hx3)
    have t15 := b5 _ _ dy5 (s4 _ _ t13)
    have kt5 : KT H4 (upd H4 y (.ins CL dy' (lgV (.ref l) (.ref a0.d)))) := kt_upd hy4 fun z => z
    have t25 := DtAll.keepT kt5 _ hl.tp (DtAll.same s4 _ t23)
    have bk5 := fun i b E g1 g2 => book_bx (book_same (bk3 i b E g1 g2).2 s4) b5 hy4 (bk3 i b E g1 g2).1
    have k45 : ∀ c o, c ≠ y → H3 c = some o → upd H4 y (.ins CL dy' (lgV (.ref l) (.ref a0.d))) c = some o := fun c o n e => b5 _ _ n (s4 _ _ e)
    generalize upd H4 y (.ins CL dy' (lgV (.ref l) (.ref a0.d))) = H5 at b5 hy5 hl5 hx5 t15 t25 bk5 k45
    -- the deeds
    refine ⟨.ref x, rfl, x, CL, dx, _, _, rfl, hx5, TL.cl, TL.n2, lg_d, a.d, _, rfl, .inl (.inl (.inl t15)), fun d nd6 => ?_⟩
    have s6 := same_upd (o := .lst xs) nd6
    have hd6 : upd H5 d (.lst xs) d = some (.lst xs) := upd_same
    have hy6 := s6 _ _ hy5
    have dy6 : d ≠ y := (ne_of_none hy5 nd6).symm
    have ld : l ≠ d := ne_of_none hl5 nd6
    have ndH : H d = none := by
      cases e : H d with
      | none => rfl
      | some o =>
        have := k45 _ _ dy6 (s03 _ _ e)
        rw [nd6] at this
        cases this
    have t26 := DtAll.same s6 _ t25
    have hl6 := s6 _ _ hl5
    generalize upd H5 d (.lst xs) = H6 at s6 hd6 hy6 t26 hl6
    refine ⟨.ref y, rfl, y, CL, dy', _, rfl, hy6, TL.cl, TL.n2, by show 2 < 1000; decide, ?_⟩
    rw [rput_d]
    have b7 : But y H6 (upd H6 y (.ins CL dy' (lgV (.ref l) (.ref d)))) := But.at
    have kt7 : KT H6 (upd H6 y (.ins CL dy' (lgV (.ref l) (.ref d)))) := kt_upd hy6 fun z => z
    exact ⟨.ref y, rfl, q y ⟨l, d⟩ _ (fun c o e => b7 _ _ (ne_of_none e nyH) (s6 _ _ (k45 _ _ (ne_of_none e nyH) (s03 _ _ e)))) nyH nlH ndH ⟨⟨dy', upd_same⟩, ⟨bs, b7 _ _ ly hl6, e2, fun i b E g1 g2 => book_bx (book_same (bk5 i b E g1 g2) s6) b7 hy6 (bk3 i b E g1 g2).1⟩, ⟨xs, b7 _ _ dy6 hd6, DtAll.keepT kt7 _ hl.tp t26⟩, ld, hl.tp⟩⟩
end
end Rc

namespace Rc
open PySem PySem.Spec PyProof.Rows L2 RZ LamX
theorem tup_take : ∀ {ls : List PyData} (k : Nat), tupDs ls = true → tupDs (ls.take k) = true
  | [], k, _ => by rw [List.take_nil]; rfl
  | _ :: _, 0, _ => rfl
  | d :: r, k + 1, h => by
    have h : (tupD d && tupDs r) = true := h
    obtain ⟨h1, h2⟩ := Bool.and_eq_true_iff.mp h
    show (tupD d && tupDs (r.take k)) = true
    rw [h1, tup_take k h2]
    rfl
section
variable {P : Program} {w : World} {K : PySem.W.Frag} {mg : Str → Option Value} {base : Heap}
/-! ### back -/
abbrev sLgBa : Stmt := inLedger 9
abbrev nLgBa : List Str := ["self", "many", "left"]
theorem scLgBa : FnScope nLgBa ["self", "many"] (defScope sLgBa) := ⟨rfl, rfl, rfl, by decide +kernel, rfl, by decide +kernel, by decide +kernel⟩
def spLgBa (K : PySem.W.Frag) (C CL : Addr) : Sp := fun vs H Q _ => ∃ (x : Addr) (a : LdAd) (zs : List Str) (Es : List Md) (ls : List PyData) (m k : Nat), vs = [.ref x, .int (m : Nat)] ∧ LdAt K C CL H x a zs Es ls ∧ m + k = ls.length ∧ Es.length = ls.length + 1 ∧ ls.length ≤ 500 ∧
  ∀ a' H', But x H H' → H a'.b = none → H a'.d = none → LdAt K C CL H' x a' zs (Es.take (k + 1)) (ls.take k) → Q .non H'
theorem ok_lgBa {f f1 C CL : Addr} {fd fd1 : FuncData} (F : FunD K "back" "Ledger.back" (defArgs sLgBa) (defBody sLgBa) (defScope sLgBa) [.int 1] [] f fd) (TL : ClsL K CL) (B : Blt mg) (WH : Has P w K mg base 1 "is_whole" ["thing"] (spBool K wholeD) f1 fd1) :
    FnOk P w K mg base CX0 2 f fd ["self", "many"] (spLgBa K C CL) := by
  refine F.ok scLgBa (fun vs H Q E h => ?_) (fun cdv A outer s H vs Q E hr h => ?_)
  · obtain ⟨_, _, _, _, _, _, _, rfl, _⟩ := h
    rfl
  · obtain ⟨x, a, zs, Es, ls, m, k, rfl, hl, mk, lE, lL, q⟩ := h
    refine ⟨_, pss_cons (ps_if (PW.pt (pw_or (pt_not (pt_val (pe_call WH.ok hr (by rfl) WH.g WH.kp WH.b .nil pass0 (pa_cons (pv 1) pa_nil)))) (pw_or (pt_cmpR op_lt (pv 1) pe_int (nomark _))
          (pw_or1 (pt_cmpR op_gt (pv 1) (pe_callB call_len_seq (by rfl) B.len PySem.boot_len (pa_cons (pe_fld (pv 0) rfl) pa_nil)) (nomark _)))))) pss_never pss_nil)
      (pss_cons (ps_set (i := 2) scLgBa.nd rfl (.inl rfl) (pe_op op_sub (pe_callB call_len_seq (by rfl) B.len PySem.boot_len (pa_cons (pe_fld (pv 0) rfl) pa_nil)) (pv 1)))
      (pss_cons (ps_fld (pv 0) (pe_slice sl_list (pe_fld (pv 0) rfl) po_none (po_some (pv 2))) rfl)
      (pss_one (ps_fld (pv 0) (pe_slice sl_list (pe_fld (pv 0) rfl) po_none (po_some (pe_op op_add (pv 2) pe_int))) rfl)))), ?_⟩
    obtain ⟨dx, hx⟩ := hl.hx
    obtain ⟨bs, e1, e2, e3⟩ := hl.hb
    obtain ⟨xs, t1, t2⟩ := hl.hd
    have lxs : xs.length = ls.length := t2.len
    have m0 : decide ((m : Int) < 0) = false := decide_eq_false (by omega)
    refine ⟨.int m, rfl, .int m, .int m, rfl, .int m, (fun y ey => by cases ey), fun H1 s1 => ⟨_, rfl, iteF ⟨.int m, rfl, _, _, rfl, rfl, _, rfl, ?_⟩⟩⟩
    rw [m0]
    have hx1 := s1 _ _ hx
    have t11 := s1 _ _ t1
    have e11 := s1 _ _ e1
    refine iteF ⟨.int m, rfl, .ref x, rfl, x, CL, dx, _, _, rfl, hx1, TL.cl, TL.n2, lg_d, a.d, xs, rfl, .inl (.inl (.inl t11)), _, _, rfl, rfl, _, rfl, ?_⟩
    rw [show decide ((xs.length : Int) < (m : Int)) = false from decide_eq_false (by omega)]
    refine iteF ⟨.ref x, rfl, x, CL, dx, _, _, rfl, hx1, TL.cl, TL.n2, lg_d, a.d, xs, rfl, .inl (.inl (.inl t11)), .int m, rfl, _, _, rfl, rfl, ?_⟩
    refine ⟨.ref x, rfl, x, CL, dx, _, _, rfl, hx1, TL.cl, TL.n2, lg_d, .int _, rfl, (k : Int), congrArg V.int (by omega), a.d, xs, rfl, .inl (.inl t11), fun d nd => ?_⟩
    rw [cut_take]
    have s2 := same_upd (o := .lst (xs.take k)) nd
    have hd2 : upd H1 d (.lst (xs.take k)) d = some (.lst (xs.take k)) := upd_same
    have hx2 := s2 _ _ hx1
    have ndH : H d = none := s1.free nd
    have dx2 : d ≠ x := (ne_of_none hx1 nd).symm
    have s02 := s1.trans s2
    generalize upd H1 d (.lst (xs.take k)) = H2 at s2 hd2 hx2 s02
    refine ⟨.ref x, rfl, x, CL, dx, _, rfl, hx2, TL.cl, TL.n2, by show 2 < 1000; decide, ?_⟩
    rw [rput_d]
    have b3 : But x H2 (upd H2 x (.ins CL dx (lgV (.ref a.b) (.ref d)))) := But.at
    have hx3 : upd H2 x (.ins CL dx (lgV (.ref a.b) (.ref d))) x = some (.ins CL dx (lgV (.ref a.b) (.ref d))) := upd_same
    have bx : a.b ≠ x := fun z => by rw [z, hx] at e1; cases e1
    have e13 := b3 _ _ bx (s02 _ _ e1)
    have hd3 := b3 _ _ dx2 hd2
    have b03 : But x H (upd H2 x (.ins CL dx (lgV (.ref a.b) (.ref d)))) := fun c o n e => b3 _ _ n (s02 _ _ e)
    generalize upd H2 x (.ins CL dx (lgV (.ref a.b) (.ref d))) = H3 at b3 hx3 e13 hd3 b03
    refine ⟨.ref x, rfl, x, CL, dx, _, _, rfl, hx3, TL.cl, TL.n1, lg_b, .int _, rfl, _, _, rfl, rfl, ((k + 1 : Nat) : Int), congrArg V.int (by omega), a.b, _, rfl, .inl (.inl e13), fun l nl => ?_⟩
    rw [cut_take, ← List.map_take]
    have s4 := same_upd (o := .lst ((bs.take (k + 1)).map V.ref)) nl
    have hl4 : upd H3 l (.lst ((bs.take (k + 1)).map V.ref)) l = some (.lst ((bs.take (k + 1)).map V.ref)) := upd_same
    have hx4 := s4 _ _ hx3
    have lx : l ≠ x := (ne_of_none hx3 nl).symm
    have ld : l ≠ d := (ne_of_none hd3 nl).symm
    have hd4 := s4 _ _ hd3
    have nlH : H l = none := by
      cases e : H l with
      | none => rfl
      | some o =>
        have := b03 _ _ lx e
        rw [nl] at this
        cases this
    generalize upd H3 l (.lst ((bs.take (k + 1)).map V.ref)) = H4 at s4 hl4 hx4 hd4
    refine ⟨.ref x, rfl, x, CL, dx, _, rfl, hx4, TL.cl, TL.n1, by show 2 < 1000; decide, ?_⟩
    rw [rput_b]
    have b5 : But x H4 (upd H4 x (.ins CL dx (lgV (.ref l) (.ref d)))) := But.at
    have b05 : But x H (upd H4 x (.ins CL dx (lgV (.ref l) (.ref d)))) := fun c o n e => b5 _ _ n (s4 _ _ (b03 _ _ n e))
    have kt : KT H (upd H4 x (.ins CL dx (lgV (.ref l) (.ref d)))) := fun c o e t => b05 c o (fun z => by rw [z, hx] at e; cases e; exact t) e
    refine q ⟨l, d⟩ _ b05 nlH ndH ⟨⟨dx, upd_same⟩, ⟨bs.take (k + 1), b5 _ _ lx hl4, by rw [List.length_take, List.length_take, e2], fun i b E' g1 g2 => ?_⟩, ⟨xs.take k, b5 _ _ dx2 hd4, DtAll.take k (DtAll.keepT kt _ hl.tp t2)⟩, ld, tup_take k hl.tp⟩
    have hi : i < k + 1 := by
      have := (List.getElem?_eq_some_iff.mp g1).1
      rw [List.length_take] at this
      omega
    rw [List.getElem?_take_of_lt hi] at g1 g2
    have hb := e3 i b E' g1 g2
    refine book_bx hb b05 hx fun z => ?_
    obtain ⟨_, _, _, wg, ws, wd, e, _⟩ := hb.ex
    rw [z, hx] at e
    have e' := Option.some.inj e
    have h : (2 : Nat) = 4 := congrArg (fun o => match o with | HO.ins _ _ fs => fs.length | _ => 0) e'
    exact absurd h (by decide)
end
end Rc

namespace Rc
open PySem PySem.Spec PyProof.Rows L2 RZ LamX
/-- a deed of a ledger -/
inductive LDeed where
  | dd (d : Deed)
  | st (wd z : Str) (m : Int)
  | se
def ldD : LDeed → PyData
  | .dd d => deedD d
  | .st wd z m => stepD3 (wd, z, m)
  | .se => seD
def DdAt (K : PySem.W.Frag) (H : Hp) (v : V) (zs : List Str) (D : Md) : LDeed → Prop
  | .dd d => Dt K H v (deedD d) ∧ d.Ok zs
  | .st wd z m => ∃ t r, v = .ref t ∧ H t = some (.tup [.str wd, .str z, .int m]) ∧ CanD zs D wd z m r
  | .se => ∃ t, v = .ref t ∧ H t = some (.tup [.str "settle"])
/-- what a deed leads to -/
def After (zs : List Str) (D : Md) : LDeed → Md → Prop
  | .dd d, E => E = doneD zs D d
  | .st wd z m, E => ∃ r, CanD zs D wd z m r ∧ E = fallAll zs D r m
  | .se, E => Gs zs E ∧ Gb E ∧ E.given = D.given ∧ E.notes = D.notes ∧ Settled zs E
theorem tup_ld (ld : LDeed) : tupD (ldD ld) = true := by
  cases ld with
  | dd d => exact tup_deed d
  | st wd z m => simp [ldD, stepD3, tupD, tupDs]
  | se => rfl
theorem DdAt.dt {K : PySem.W.Frag} {H : Hp} {v : V} {zs : List Str} {D : Md} : ∀ {ld : LDeed}, DdAt K H v zs D ld → Dt K H v (ldD ld)
  | .dd d, h => h.1
  | .st wd z m, ⟨t, r, e, ht, _⟩ => by
    subst e
    exact .tup (.inl (.inl ht)) (.cons (.str _) (.cons (.str _) (.cons (.int _) .nil)))
  | .se, ⟨t, e, ht⟩ => by
    subst e
    exact .tup (.inl (.inl ht)) (.cons (.str _) .nil)
/-- the word ahead of a deed -/
def wordL : LDeed → Str
  | .dd (.give _ _) => "give"
  | .dd (.put _ _ _) => "put"
  | .st wd _ _ => wd
  | .se => "settle"
section
variable {P : Program} {w : World} {K : PySem.W.Frag} {mg : Str → Option Value} {base : Heap}
/-! ### _law_deed_drawn -/
abbrev sLDd : Stmt := topS 75
abbrev nLDd : List Str := ["_law_pot_here", "_law_model_here", "_law_size", "_law_way", "_law_step_here"]
theorem scLDd : FnScope nLDd ["_law_pot_here", "_law_model_here", "_law_size"] (defScope sLDd) := ⟨rfl, rfl, rfl, by decide +kernel, rfl, by decide +kernel, by decide +kernel⟩
def spLDd (K : PySem.W.Frag) : Sp := fun vs H Q _ => ∃ (p : Addr) (a : MdA) (D : Md) (zs : List Str) (sz : Int), vs = [.ref p, .ref a.m, .int sz] ∧ (sz = 0 ∨ sz = 1) ∧ Pot H p ∧ ModelAt K H zs a D ∧ Gs zs D ∧ Gb D ∧ ¬ a.Has p ∧
  ∀ v H' ld, Pot H' p → But p H H' → DdAt K H' v zs D ld → Q v H'
theorem ok_ldd {f fT f1 f2 : Addr} {fd fdT fd1 fd2 : FuncData} (F : Fun K "_law_deed_drawn" "_law_deed_drawn" sLDd f fd) (TK : HasTake P w K mg base fT fdT) (SP : Has P w K mg base 6 "_law_step" ["_law_pot_here", "_law_model_here"] (spLSp K) f1 fd1) (LD : Has P w K mg base 3 "_law_deeds" ["_law_pot_here", "_law_names_here", "_law_many", "_law_size"] (spLDs K) f2 fd2) :
    FnOk P w K mg base CX0 7 f fd ["_law_pot_here", "_law_model_here", "_law_size"] (spLDd K) := by
  refine F.ok scLDd (fun vs H Q E h => ?_) (fun cdv Ar outer s H vs Q E hr h => ?_)
  · obtain ⟨_, _, _, _, _, rfl, _⟩ := h
    rfl
  · obtain ⟨p, a, D, zs, sz, rfl, hsz, hp, hM, g, gb, nap, q⟩ := h
    have hu := hu_of hr
    have hr1 := hr.mono (show 1 ≤ 6 by decide)
    have hr3 := hr.mono (show 3 ≤ 6 by decide)
    refine ⟨_, pss_cons (ps_set (i := 3) scLDd.nd rfl (.inl rfl) (pe_call TK.ok hr1 (by rfl) TK.g TK.kp TK.b .nil pass0 (pa_cons (pv 0) (pa_cons pe_int pa_nil))))
      (C8.pss_cut (ps_set (i := 4) scLDd.nd rfl (.inl rfl) (pe_call SP.ok hr (by rfl) SP.g SP.kp SP.b .nil pass0 (pa_cons (pv 0) (pa_cons (pv 1) pa_nil))))
      (pss_cons (ps_if (pt_cmpR op_eq (pv 3) pe_int (nomark _)) (pss_one (ps_ret (pe_tup (pa_cons pe_str pa_nil)))) pss_nil)
      (C8.pss_cut (ps_if (PW.pt (pw_and (pt_cmpR op_gt (pv 3) pe_int (nomark _)) (pw_and1 (pt_cmpR op_notN (pv 4) pe_non (nomark _))))) (pss_one (ps_ret (pv 4))) pss_nil)
      (pss_one (ps_ret (pe_ix ix_list (pe_call LD.ok hr3 (by rfl) LD.g LD.kp LD.b .nil pass0 (pa_cons (pv 0) (pa_cons (pe_dget hu (pv 1) pe_str (fun _ _ => rfl)) (pa_cons pe_int (pa_cons (pv 2) pa_nil))))) pe_int (fun _ _ => rfl))))))), ?_⟩
    have nz := g.nz
    refine ⟨.ref p, rfl, p, 8, rfl, hp, litM _ (by decide) (by decide), fun wy H1 wy0 wy1 hp1 bt1 => ?_⟩
    have hM1 := model_but hM bt1 hp nap
    refine ⟨fun σ1 H2 => ∃ v4, σ1 = [some (.ref p), some (.ref a.m), some (.int sz), some (.int wy), some v4] ∧ ModelAt K H2 zs a D ∧ Pot H2 p ∧ But p H H2 ∧ (v4 = .non ∨ ∃ T0 wd z mm r, v4 = .ref T0 ∧ H2 T0 = some (.tup [.str wd, .str z, .int mm]) ∧ CanD zs D wd z mm r), ?_, ?_⟩
    · refine ⟨.ref p, rfl, .ref a.m, rfl, p, a, D, zs, rfl, hp1, hM1, g, gb, fun _ H3 s3 => ⟨_, rfl, model_same hM1 s3, hp1.same s3, bt1.trans (same_but s3), .inl rfl⟩, fun T0 wd z mm r H3 nT bt3 hp3 hT3 cd => ⟨_, rfl, model_but hM1 bt3 hp1 nap, hp3, bt1.trans bt3, .inr ⟨T0, wd, z, mm, r, rfl, hT3, cd⟩⟩⟩
    · rintro σ1 H2 ⟨v4, rfl, hM2, hp2, bt2, hv4⟩
      refine ⟨_, rfl, rfl, _, rfl, ite2 (fun _ => ?_) (fun _ => ?_)⟩
      · refine ⟨by show 1 ≤ sizeLine; decide, fun t nt => ?_⟩
        have st := same_upd (o := .tup [V.str "settle"]) nt
        exact q (.ref t) _ .se (hp2.same st) (bt2.trans (same_but st)) ⟨t, rfl, upd_same⟩
      · refine ⟨fun σ1 H3 => σ1 = [some (.ref p), some (.ref a.m), some (.int sz), some (.int wy), some v4] ∧ H3 = H2, ?_, ?_⟩
        · refine ⟨_, rfl, _, _, rfl, rfl, _, rfl, ite2 (fun _ => ⟨_, rfl, rfl, _, rfl, ?_⟩) (fun _ => ⟨rfl, rfl⟩)⟩
          rcases hv4 with rfl | ⟨T0, wd, z, mm, r, rfl, hT3, cd⟩
          · rw [decide_eq_true rfl]
            exact iteF ⟨rfl, rfl⟩
          · rw [decide_eq_false (fun c => by cases c)]
            exact iteT ⟨_, rfl, q (.ref T0) _ (.st wd z mm) hp2 bt2 ⟨T0, r, rfl, hT3, cd⟩⟩
        · rintro σ1 H3 ⟨rfl, rfl⟩
          have lop : a.lo ≠ p := fun z => nap (z ▸ .inr (.inl rfl))
          refine ⟨.ref p, rfl, .ref a.m, rfl, a.m, .ref a.lo, rfl, hM2.g0, .int sz, rfl, p, a.lo, zs, 1, sz, rfl, hsz, hp2, lop, hM2.ho, nz.n0, by have := nz.n1; omega, by decide, fun r xs ds H4 nr rp hr4 dd lds od hp4 bt4 => ?_⟩
          obtain ⟨d, rfl⟩ : ∃ d, ds = [d] := by
            match ds, lds with
            | [d], _ => exact ⟨d, rfl⟩
          cases dd with
          | cons d1 d2 =>
            cases d2
            exact ⟨r, _, 0, _, rfl, rfl, .inl (.inl hr4), atI_nat (j := 0) rfl, q _ _ (.dd d) hp4 (bt2.trans bt4) ⟨d1, od d List.mem_cons_self⟩⟩
/-! ### _law_model_did -/
abbrev sLMdd : Stmt := topS 76
theorem scLMdd : FnScope ["_law_model_here", "_law_deed"] ["_law_model_here", "_law_deed"] (defScope sLMdd) := ⟨rfl, rfl, rfl, by decide +kernel, rfl, by decide +kernel, by decide +kernel⟩
def spLMdd (K : PySem.W.Frag) : Sp := fun vs H Q _ => ∃ (a : MdA) (D : Md) (zs : List Str) (v : V) (ld : LDeed), vs = [.ref a.m, v] ∧ ModelAt K H zs a D ∧ Gs zs D ∧ Gb D ∧ DdAt K H v zs D ld ∧
  ∀ E H', (∀ b o, ¬ a.Has b → H b = some o → H' b = some o) → ModelAt K H' zs a E → After zs D ld E → Q .non H'
theorem ok_lmdd {f f1 f2 f3 : Addr} {fd fd1 fd2 fd3 : FuncData} (F : Fun K "_law_model_did" "_law_model_did" sLMdd f fd) (ST : Has P w K mg base 7 "_law_settle" ["_law_model_here"] (spLSt K) f1 fd1) (WN : Has P w K mg base 6 "_law_went" ["_law_model_here", "_law_step_here"] (spLWn K) f2 fd2) (DN : Has P w K mg base 1 "_law_done" ["_law_model_here", "_law_deed"] (spLDn K) f3 fd3) :
    FnOk P w K mg base CX0 8 f fd ["_law_model_here", "_law_deed"] (spLMdd K) := by
  refine F.ok scLMdd (fun vs H Q E h => ?_) (fun cdv Ar outer s H vs Q E0 hr h => ?_)
  · obtain ⟨_, _, _, _, _, rfl, _⟩ := h
    rfl
  · obtain ⟨a, D, zs, v, ld, rfl, hM, g, gb, hd, q⟩ := h
    have hr1 := hr.mono (show 1 ≤ 7 by decide)
    have hr6 := hr.mono (show 6 ≤ 7 by decide)
    refine ⟨_, pss_one (ps_if (pt_cmpR op_eq (pe_ix ix_tupD (pv 1) pe_int (fun _ _ => rfl)) pe_str (nomark _)) (pss_one (ps_expr (pe_call ST.ok hr (by rfl) ST.g ST.kp ST.b .nil pass0 (pa_cons (pv 0) pa_nil)))) (pss_one (ps_if (pt_cmpR op_in_seq (pe_ix ix_tupD (pv 1) pe_int (fun _ _ => rfl)) (pe_tup (pa_cons pe_str (pa_cons pe_str pa_nil))) (by rfl)) (pss_one (ps_expr (pe_call WN.ok hr6 (by rfl) WN.g WN.kp WN.b .nil pass0 (pa_cons (pv 0) (pa_cons (pv 1) pa_nil))))) (pss_one (ps_expr (pe_call DN.ok hr1 (by rfl) DN.g DN.kp DN.b .nil pass0 (pa_cons (pv 0) (pa_cons (pv 1) pa_nil)))))))), ?_⟩
    have hdf : a.Has a.df := .inr (.inr (.inr (.inl rfl)))
    have n12 := g.nz.n1
    cases ld with
    | se =>
      have dv : Dt K H v (.tuple [.str "settle"]) := hd.dt
      refine ⟨v, rfl, _, 0, .str "settle", dv, rfl, rfl, fun v0 e0 => ?_⟩
      cases e0
      refine ⟨rfl, _, rfl, ?_⟩
      rw [decide_eq_true (show V.str ("settle" : Str) = V.str ("settle" : Str) from rfl)]
      exact iteT ⟨.ref a.m, rfl, a, D, zs, rfl, hM, g, gb, fun E H' b hM' gE gbE eg en st => q E H' (fun c o nh e => b c o (fun z => nh (z ▸ hdf)) e) hM' ⟨gE, gbE, eg, en, st⟩⟩
    | st wd z m =>
      have dv : Dt K H v (.tuple [.str wd, .str z, .int m]) := hd.dt
      obtain ⟨t, r, rfl, ht, cd⟩ := hd
      refine ⟨_, rfl, _, 0, .str wd, dv, rfl, rfl, fun v0 e0 => ?_⟩
      cases e0
      refine ⟨rfl, _, rfl, ?_⟩
      have nse : ¬ V.str wd = V.str ("settle" : Str) := fun e => by
        rcases cd.kd with ⟨rfl, _⟩ | ⟨rfl, _⟩ <;> exact absurd (V.str.inj e) (by decide +kernel)
      rw [decide_eq_false nse]
      refine iteF ⟨_, rfl, _, 0, .str wd, dv, rfl, rfl, fun v0 e0 => ?_⟩
      cases e0
      refine ⟨by show 2 ≤ sizeLine; decide, fun T nT => ?_⟩
      have s1 := same_upd (o := .tup [V.str "pay", .str "clear"]) nT
      have hT : upd H T (.tup [V.str "pay", .str "clear"]) T = some (.tup [V.str "pay", .str "clear"]) := upd_same
      generalize upd H T (.tup [V.str "pay", .str "clear"]) = H1 at s1 hT
      have ein : inV (V.str wd) [V.str "pay", .str "clear"] = true := by
        rcases cd.kd with ⟨rfl, _⟩ | ⟨rfl, _⟩ <;> decide +kernel
      refine ⟨T, _, rfl, .inr (.inl (.inl hT)), rfl, rfl, _, rfl, ?_⟩
      rw [ein]
      exact iteT ⟨.ref a.m, rfl, .ref t, rfl, a, D, zs, t, wd, z, m, r, rfl, model_same hM s1, g, .inl (.inl (s1 _ _ ht)), cd, fun H' b hM' => q _ H' (fun c o nh e => b c o (fun z => nh (z ▸ hdf)) (s1 _ _ e)) hM' ⟨r, cd, rfl⟩⟩
    | dd d =>
      obtain ⟨hv, od⟩ := hd
      obtain ⟨wrd, rest, ewd, n1, n2⟩ : ∃ (wrd : Str) (rest : List PyData), deedD d = .tuple (.str wrd :: rest) ∧ ¬ V.str wrd = V.str ("settle" : Str) ∧ inV (V.str wrd) [V.str "pay", .str "clear"] = false := by
        cases d with
        | give z n => exact ⟨"give", _, rfl, fun e => absurd (V.str.inj e) (by decide +kernel), by decide +kernel⟩
        | put z y n => exact ⟨"put", _, rfl, fun e => absurd (V.str.inj e) (by decide +kernel), by decide +kernel⟩
      have dv : Dt K H v (.tuple (.str wrd :: rest)) := ewd ▸ hv
      refine ⟨v, rfl, _, 0, .str wrd, dv, rfl, rfl, fun v0 e0 => ?_⟩
      cases e0
      refine ⟨rfl, _, rfl, ?_⟩
      rw [decide_eq_false n1]
      refine iteF ⟨v, rfl, _, 0, .str wrd, dv, rfl, rfl, fun v0 e0 => ?_⟩
      cases e0
      refine ⟨by show 2 ≤ sizeLine; decide, fun T nT => ?_⟩
      have s1 := same_upd (o := .tup [V.str "pay", .str "clear"]) nT
      have hT : upd H T (.tup [V.str "pay", .str "clear"]) T = some (.tup [V.str "pay", .str "clear"]) := upd_same
      generalize upd H T (.tup [V.str "pay", .str "clear"]) = H1 at s1 hT
      refine ⟨T, _, rfl, .inr (.inl (.inl hT)), rfl, rfl, _, rfl, ?_⟩
      rw [n2]
      exact iteF ⟨.ref a.m, rfl, v, rfl, a, D, zs, v, d, rfl, model_same hM s1, Dt.same s1 _ hv, od, by omega, g.rows, fun H' b hM' => q _ H' (fun c o nh e => b c o (fun f => nh f.has) (s1 _ _ e)) hM' rfl⟩
/-! ### _law_ledger_did -/
abbrev sLLd : Stmt := topS 77
theorem scLLd : FnScope ["_law_ledger", "_law_deed"] ["_law_ledger", "_law_deed"] (defScope sLLd) := ⟨rfl, rfl, rfl, by decide +kernel, rfl, by decide +kernel, by decide +kernel⟩
def spLLd (K : PySem.W.Frag) (C CL : Addr) (T : List (Addr × Str)) : Sp := fun vs H Q _ => ∃ (x : Addr) (a : LdAd) (zs : List Str) (Es : List Md) (ls : List PyData) (D : Md) (v : V) (ld : LDeed), vs = [.ref x, v] ∧ LdAt K C CL H x a zs (Es ++ [D]) ls ∧ Gs zs D ∧ Gb D ∧ manyM (bkOf zs D) < 60 ∧ DdAt K H v zs D ld ∧ Tabs T H ∧ Es.length ≤ 400 ∧ ls.length ≤ 400 ∧
  ∀ E H', ButL a H H' → Tabs T H' → LdAt K C CL H' x a zs (Es ++ [D] ++ [E]) (ls ++ [ldD ld]) → After zs D ld E → Q .non H'
theorem ok_lld {f f1 f2 f3 f4 C CL : Addr} {fd fd1 fd2 fd3 fd4 : FuncData} {T : List (Addr × Str)} (F : Fun K "_law_ledger_did" "_law_ledger_did" sLLd f fd) (TL : ClsL K CL) (LS : HasM P w K mg base CL 10 "settle" ["self"] (spLgE K C CL T) f1 fd1) (LP' : HasM P w K mg base CL 7 "put" ["self", "who", "to", "amount"] (spLgP K C CL) f2 fd2)
    (LG : HasM P w K mg base CL 7 "give" ["self", "who", "amount"] (spLgG K C CL) f3 fd3) (LT : HasM P w K mg base CL 11 "step" ["self", "step"] (spLgS K C CL) f4 fd4) : FnOk P w K mg base CX0 12 f fd ["_law_ledger", "_law_deed"] (spLLd K C CL T) := by
  refine F.ok scLLd (fun vs H Q E h => ?_) (fun cdv Ar outer s H vs Q E0 hr h => ?_)
  · obtain ⟨_, _, _, _, _, _, _, _, rfl, _⟩ := h
    rfl
  · obtain ⟨x, a, zs, Es, ls, D, v, ld, rfl, hl, g, gb, my, hd, tT, lE, lL, q⟩ := h
    have hr10 := hr.mono (show 10 ≤ 11 by decide)
    have hr7 := hr.mono (show 7 ≤ 11 by decide)
    refine ⟨_, pss_cons (ps_if (pt_cmpR op_eq (pe_ix ix_tupD (pv 1) pe_int (fun _ _ => rfl)) pe_str (nomark _)) (pss_one (ps_ret (pe_meth0 (pv 0) TL.cl LS.m LS.ok hr10 LS.b .nil pass0))) pss_nil)
      (pss_cons (ps_if (pt_cmpR op_eq (pe_ix ix_tupD (pv 1) pe_int (fun _ _ => rfl)) pe_str (nomark _)) (pss_one (ps_ret (pe_meth (pv 0) TL.cl LP'.m LP'.ok hr7 LP'.b .nil pass0 (pa_cons (pe_ix ix_tupD (pv 1) pe_int (fun _ _ => rfl)) (pa_cons (pe_ix ix_tupD (pv 1) pe_int (fun _ _ => rfl)) (pa_cons (pe_ix ix_tupD (pv 1) pe_int (fun _ _ => rfl)) pa_nil)))))) pss_nil)
      (pss_cons (ps_if (pt_cmpR op_eq (pe_ix ix_tupD (pv 1) pe_int (fun _ _ => rfl)) pe_str (nomark _)) (pss_one (ps_ret (pe_meth (pv 0) TL.cl LG.m LG.ok hr7 LG.b .nil pass0 (pa_cons (pe_ix ix_tupD (pv 1) pe_int (fun _ _ => rfl)) (pa_cons (pe_ix ix_tupD (pv 1) pe_int (fun _ _ => rfl)) pa_nil))))) pss_nil)
      (pss_one (ps_ret (pe_meth (pv 0) TL.cl LT.m LT.ok hr LT.b .nil pass0 (pa_cons (pv 1) pa_nil)))))), ?_⟩
    obtain ⟨dx, hx⟩ := hl.hx
    have no : ∀ {m : Str}, ((m == "books") || (m == "deeds")) = false → (lgV (.ref a.b) (.ref a.d)).lookup m = none := fun h => lg_no (NoFL.mk' h)
    have dec : ∀ {A B : Str}, ¬ A = B → decide (V.str A = V.str B) = false := fun h => decide_eq_false fun e => h (V.str.inj e)
    cases ld with
    | se =>
      have dv : Dt K H v (.tuple [.str "settle"]) := hd.dt
      refine ⟨v, rfl, _, 0, .str "settle", dv, rfl, rfl, fun v0 e0 => ?_⟩
      cases e0
      refine ⟨rfl, _, rfl, ?_⟩
      rw [decide_eq_true (show V.str ("settle" : Str) = V.str ("settle" : Str) from rfl)]
      exact iteT ⟨.ref x, rfl, x, dx, _, rfl, hx, no (by decide +kernel), x, a, zs, Es, ls, D, rfl, hl, g, gb, tT, lE, lL, fun E H' b t hl' gE gbE eg en st => q E H' b t hl' ⟨gE, gbE, eg, en, st⟩⟩
    | dd d =>
      obtain ⟨hv, od⟩ := hd
      cases d with
      | put z y m =>
        obtain ⟨hz, hy, am⟩ := od
        have dv : Dt K H v (.tuple [.str "put", .str z, .str y, .int m]) := hv
        refine ⟨v, rfl, _, 0, .str "put", dv, rfl, rfl, fun v0 e0 => ?_⟩
        cases e0
        refine ⟨rfl, _, rfl, ?_⟩
        rw [dec (by decide +kernel)]
        refine iteF ⟨v, rfl, _, 0, .str "put", dv, rfl, rfl, fun v0 e0 => ?_⟩
        cases e0
        refine ⟨rfl, _, rfl, ?_⟩
        rw [decide_eq_true (show V.str ("put" : Str) = V.str ("put" : Str) from rfl)]
        refine iteT ⟨.ref x, rfl, x, dx, _, rfl, hx, no (by decide +kernel), v, rfl, _, 1, .str z, dv, rfl, rfl, fun v1 e1 => ?_⟩
        cases e1
        refine ⟨v, rfl, _, 2, .str y, dv, rfl, rfl, fun v1 e1 => ?_⟩
        cases e1
        refine ⟨v, rfl, _, 3, .int m, dv, rfl, rfl, fun v1 e1 => ?_⟩
        cases e1
        exact ⟨x, a, zs, Es, ls, D, z, y, m, rfl, hl, g, hz, hy, am.1, my, lE, lL, fun H' b t hl' => q _ H' b (t T tT) hl' rfl⟩
      | give z m =>
        obtain ⟨hz, am⟩ := od
        have dv : Dt K H v (.tuple [.str "give", .str z, .int m]) := hv
        refine ⟨v, rfl, _, 0, .str "give", dv, rfl, rfl, fun v0 e0 => ?_⟩
        cases e0
        refine ⟨rfl, _, rfl, ?_⟩
        rw [dec (by decide +kernel)]
        refine iteF ⟨v, rfl, _, 0, .str "give", dv, rfl, rfl, fun v0 e0 => ?_⟩
        cases e0
        refine ⟨rfl, _, rfl, ?_⟩
        rw [dec (by decide +kernel)]
        refine iteF ⟨v, rfl, _, 0, .str "give", dv, rfl, rfl, fun v0 e0 => ?_⟩
        cases e0
        refine ⟨rfl, _, rfl, ?_⟩
        rw [decide_eq_true (show V.str ("give" : Str) = V.str ("give" : Str) from rfl)]
        refine iteT ⟨.ref x, rfl, x, dx, _, rfl, hx, no (by decide +kernel), v, rfl, _, 1, .str z, dv, rfl, rfl, fun v1 e1 => ?_⟩
        cases e1
        refine ⟨v, rfl, _, 2, .int m, dv, rfl, rfl, fun v1 e1 => ?_⟩
        cases e1
        exact ⟨x, a, zs, Es, ls, D, z, m, rfl, hl, g, hz, am.1, lE, lL, fun H' b t hl' => q _ H' b (t T tT) hl' rfl⟩
    | st wd z m =>
      have dv : Dt K H v (.tuple [.str wd, .str z, .int m]) := hd.dt
      obtain ⟨t, r, rfl, ht, cd⟩ := hd
      have nw : ¬ wd = "settle" ∧ ¬ wd = "put" ∧ ¬ wd = "give" := by
        rcases cd.kd with ⟨rfl, _⟩ | ⟨rfl, _⟩ <;> refine ⟨?_, ?_, ?_⟩ <;> decide +kernel
      refine ⟨_, rfl, _, 0, .str wd, dv, rfl, rfl, fun v0 e0 => ?_⟩
      cases e0
      refine ⟨rfl, _, rfl, ?_⟩
      rw [dec nw.1]
      refine iteF ⟨_, rfl, _, 0, .str wd, dv, rfl, rfl, fun v0 e0 => ?_⟩
      cases e0
      refine ⟨rfl, _, rfl, ?_⟩
      rw [dec nw.2.1]
      refine iteF ⟨_, rfl, _, 0, .str wd, dv, rfl, rfl, fun v0 e0 => ?_⟩
      cases e0
      refine ⟨rfl, _, rfl, ?_⟩
      rw [dec nw.2.2]
      exact iteF ⟨.ref x, rfl, x, dx, _, rfl, hx, no (by decide +kernel), .ref t, rfl, x, a, zs, Es, ls, D, t, wd, z, m, r, rfl, hl, ht, cd, lE, lL, fun H' b t' hl' => q _ H' b (t' T tT) hl' ⟨r, cd, rfl⟩⟩
end
end Rc

namespace Rc
open PySem PySem.Spec PyProof.Rows L2 RZ LamX
def LdOk (zs : List Str) : LDeed → Prop
  | .dd d => d.Ok zs
  | .st wd z m => (wd = "pay" ∨ wd = "clear") ∧ z ∈ zs ∧ 1 ≤ m ∧ m ≤ 10 ^ 58
  | .se => True
theorem DdAt.ok {K : PySem.W.Frag} {H : Hp} {v : V} {zs : List Str} {D : Md} : ∀ {ld : LDeed}, DdAt K H v zs D ld → LdOk zs ld
  | .dd d, h => h.2
  | .st wd z m, ⟨t, r, _, _, cd⟩ => ⟨cd.kd.elim (fun h => .inl h.1) fun h => .inr h.1, cd.hz, cd.m1, cd.m58⟩
  | .se, _ => trivial
theorem nice_ld {zs : List Str} (hz : ∀ z ∈ zs, nameT z = true) {ld : LDeed} (ok : LdOk zs ld) : ∃ n, NiceD (ldD ld) n ∧ (ldD ld).depth ≤ 1 ∧ n ≤ 60 := by
  cases ld with
  | se =>
    have a := NiceA.cons (nice_name (z := "settle") (by decide +kernel)) (by simp only [PyData.depth]; omega) NiceA.nil
    exact ⟨_, a.tuple, by simp only [ldD, seD, PyData.depth, PyData.depthAll]; omega, by omega⟩
  | st wd z m =>
    obtain ⟨hw, h1, h2, h3⟩ := ok
    have nw : nameT wd = true := by
      rcases hw with rfl | rfl <;> decide +kernel
    have a := NiceA.cons (nice_name (z := wd) nw) (by simp only [PyData.depth]; omega) (NiceA.cons (nice_name (hz z h1)) (by simp only [PyData.depth]; omega) (NiceA.cons (nice_int (big_of (i := m) (by omega) (by omega))) (by simp only [PyData.depth]; omega) NiceA.nil))
    exact ⟨_, a.tuple, by simp only [ldD, stepD3, PyData.depth, PyData.depthAll]; omega, by omega⟩
  | dd d =>
    cases d with
    | give z n =>
      obtain ⟨h1, h2, h3⟩ := ok
      have a := NiceA.cons (nice_name (z := "give") (by decide +kernel)) (by simp only [PyData.depth]; omega) (NiceA.cons (nice_name (hz z h1)) (by simp only [PyData.depth]; omega) (NiceA.cons (nice_int (big_of (i := n) (by omega) (by omega))) (by simp only [PyData.depth]; omega) NiceA.nil))
      exact ⟨_, a.tuple, by simp only [ldD, deedD, PyData.depth, PyData.depthAll]; omega, by omega⟩
    | put z y n =>
      obtain ⟨h1, h0, h2, h3⟩ := ok
      have a := NiceA.cons (nice_name (z := "put") (by decide +kernel)) (by simp only [PyData.depth]; omega) (NiceA.cons (nice_name (hz z h1)) (by simp only [PyData.depth]; omega) (NiceA.cons (nice_name (hz y h0)) (by simp only [PyData.depth]; omega) (NiceA.cons (nice_int (big_of (i := n) (by omega) (by omega))) (by simp only [PyData.depth]; omega) NiceA.nil)))
      exact ⟨_, a.tuple, by simp only [ldD, deedD, PyData.depth, PyData.depthAll]; omega, by omega⟩
theorem nice_lds {zs : List Str} (hz : ∀ z ∈ zs, nameT z = true) : ∀ {ls : List LDeed}, (∀ l ∈ ls, LdOk zs l) → ∃ n, NiceA (ls.map ldD) n ∧ n ≤ 70 * ls.length
  | [], _ => ⟨0, NiceA.nil, Nat.zero_le _⟩
  | d :: r, h => by
    obtain ⟨n, a, e, le⟩ := nice_ld hz (h d List.mem_cons_self)
    obtain ⟨m, b, lm⟩ := nice_lds hz (ls := r) fun y hy => h y (List.mem_cons_of_mem _ hy)
    exact ⟨_, NiceA.cons a (by omega) b, by rw [List.length_cons]; omega⟩
/-- len(ledger) -/
def rLgLen (K : PySem.W.Frag) (C CL : Addr) : List V → Hp → VK → Prop := fun xs H Q => ∃ x a zs Es ls, xs = [.ref x] ∧ LdAt K C CL H x a zs Es ls ∧ ls.length ≤ 500 ∧ Q (.int (ls.length : Nat)) H
theorem call_lenLg {X : Cx} {C CL f : Addr} {fd : FuncData} (G : FnOk X.prog X.w X.K X.mg X.base CX0 1 f fd ["self"] (spLgL X.K C CL)) (bd : Binds X.K fd ["self"] []) (hm : Meth X.K CL "__len__" f) (hr : Room 2 X.A) : CallR X (.builtin "len") (rLgLen X.K C CL) := by
  intro pins s σ H xs us Q I r h
  obtain ⟨x, a, zs, Es, ls, rfl, hl, lL, q⟩ := h
  obtain ⟨u, rfl, ru⟩ := vals1 r
  cases ru
  obtain ⟨dx, e⟩ := hl.hx
  obtain ⟨m, Fm⟩ := I.fr
  obtain ⟨mA, O, _⟩ := ins_get I.hok e
  obtain ⟨od, J, _⟩ := O.look
  refine PySem.W.len_K Fm I.ok.mod.kin J hm.at_ hm.fn ?_
  have e0 := I.env0
  refine wpAny_call (codeAny_mono (G.run X.A.in1 X.stack s H ⟨[.ref x], []⟩ [.ref x] [.ref x] (fun v H' => v = .int (ls.length : Nat) ∧ Q (.int (ls.length : Nat)) H') E0 hr.in1 e0.in1 (bd s [.ref x] I.kIn rfl) (.cons rfl .nil) ⟨x, a, zs, Es, ls, rfl, hl, rfl, q⟩) fun r s' hq => ?_)
  match r, hq with
  | .error e, hq => exact hq.elim
  | .ok .next, hq => exact hq.elim
  | .ok .brk, hq => exact hq.elim
  | .ok .cont, hq => exact hq.elim
  | .ok (.ret u), hq =>
    obtain ⟨v, H', I', rv, ev, q'⟩ := I.after hq
    subst ev
    obtain ⟨t, rfl⟩ := rv
    exact ⟨⟨by omega, by omega⟩, ⟨.int _, H', I'.tok _, ⟨_, rfl⟩, q'⟩⟩
section
variable {P : Program} {w : World} {K : PySem.W.Frag} {mg : Str → Option Value} {base : Heap}
/-! ### _law_stands -/
abbrev sLSd : Stmt := topS 78
abbrev nLSd : List Str := ["_law_ledger", "_law_model_here", "_law_deeds_here"]
theorem scLSd : FnScope nLSd nLSd (defScope sLSd) := ⟨rfl, rfl, rfl, by decide +kernel, rfl, by decide +kernel, by decide +kernel⟩
def spLSd (K : PySem.W.Frag) (C CL : Addr) : Sp := fun vs H Q _ => ∃ (x : Addr) (a : LdAd) (zs : List Str) (Es : List Md) (D : Md) (c : MdA) (dl : Addr) (xs : List V) (lds : List LDeed), vs = [.ref x, .ref c.m, .ref dl] ∧ LdAt K C CL H x a zs (Es ++ [D]) (lds.map ldD) ∧ Gs zs D ∧ Gb D ∧ ModelAt K H zs c D ∧ H dl = some (.lst xs) ∧ DtAll K H xs (lds.map ldD) ∧ (∀ l ∈ lds, LdOk zs l) ∧ lds.length ≤ 100 ∧ ∀ H', Same H H' → Q (.bl true) H'
theorem ok_lsd {f f1 f2 f3 f4 C CL : Addr} {fd fd1 fd2 fd3 fd4 : FuncData} (F : Fun K "_law_stands" "_law_stands" sLSd f fd) (TL : ClsL K CL) (B : Blt mg) (B2 : Blt2 mg) (LG : HasM P w K mg base CL 1 "log" ["self"] (spLgLog K C CL) f1 fd1) (LN : HasM P w K mg base CL 1 "__len__" ["self"] (spLgL K C CL) f2 fd2)
    (BO : HasM P w K mg base CL 1 "book" ["self"] (spLgBk K C CL) f3 fd3) (AL : HasG P w K mg base 6 "_law_alike" ["_law_model_here", "_law_book"] (spLAl K C) f4 fd4) : FnG P w K mg base CX0 7 f fd nLSd (spLSd K C CL) := by
  refine okG0 F scLSd (fun vs H Q E h => ?_) (fun cdv Ar outer s H vs Q E hr hgd h => ?_)
  · obtain ⟨_, _, _, _, _, _, _, _, _, rfl, _⟩ := h
    rfl
  · obtain ⟨x, a, zs, Es, D, c, dl, xs, lds, rfl, hl, g, gb, hM, hdl, dd, od, l100, q⟩ := h
    have hr1 := hr.mono (show 1 ≤ 6 by decide)
    have hr2 := hr.mono (show 2 ≤ 6 by decide)
    refine ⟨_, pss_cons (ps_if (PW.pt (pw_or (pt_cmpR op_ne (pe_callB (call_repr hr hgd) (by rfl) B2.repr (by decide +kernel) (pa_cons (pe_meth0 (pv 0) TL.cl LG.m LG.ok hr1 LG.b .nil pass0) pa_nil)) (pe_callB (call_repr hr hgd) (by rfl) B2.repr (by decide +kernel) (pa_cons (pv 2) pa_nil)) (nomark _))
        (pw_or1 (pt_cmpR op_ne (pe_callB (call_repr hr hgd) (by rfl) B2.repr (by decide +kernel) (pa_cons (pe_callB (call_lenLg LN.ok LN.b LN.m hr2) (by rfl) B.len PySem.boot_len (pa_cons (pv 0) pa_nil)) pa_nil)) (pe_callB (call_repr hr hgd) (by rfl) B2.repr (by decide +kernel) (pa_cons (pe_callB call_len_seq (by rfl) B.len PySem.boot_len (pa_cons (pv 2) pa_nil)) pa_nil)) (nomark _))))) (pss_one (ps_ret pe_bl)) pss_nil)
      (pss_one (ps_ret (pe_callG AL.ok hr hgd (by rfl) AL.g AL.kp AL.b .nil pass0 (pa_cons (pv 1) (pa_cons (pe_meth0 (pv 0) TL.cl BO.m BO.ok hr1 BO.b .nil pass0) pa_nil))))), ?_⟩
    obtain ⟨dx, hx⟩ := hl.hx
    obtain ⟨k, nl, lk⟩ := nice_lds g.nz.nm od
    have nL := nl.list
    have nI := nice_int (i := (lds.length : Int)) (big_of (by omega) (by omega))
    refine ⟨.ref x, rfl, x, dx, _, rfl, hx, lg_no (NoFL.mk' (by decide +kernel)), x, a, zs, _, _, rfl, hl, fun r ys H1 s1 nr hr1' dr => ?_⟩
    refine ⟨.ref r, .list (lds.map ldD), rfl, .lst (.inl (.inl hr1')) dr, nL.sh, .inl nL.nd, Nat.le_trans nL.dp (by decide), nice_fits nL (by omega), ?_⟩
    have dd1 := DtAll.same s1 _ dd
    refine ⟨.ref dl, rfl, .ref dl, .list (lds.map ldD), rfl, .lst (.inl (.inl (s1 _ _ hdl))) dd1, nL.sh, .inl nL.nd, Nat.le_trans nL.dp (by decide), nice_fits nL (by omega), rfl, _, rfl, iteNS rfl ?_⟩
    have ll : xs.length = lds.length := by
      rw [dd.len]
      exact List.length_map ..
    have lm : (lds.map ldD).length = lds.length := List.length_map ..
    have hl1 := hl.same s1
    refine ⟨.ref x, rfl, x, a, zs, _, _, rfl, hl1, by omega, ?_⟩
    rw [lm]
    refine ⟨.int (lds.length : Nat), .int (lds.length : Nat), rfl, .int _, nI.sh, .inl nI.nd, Nat.le_trans nI.dp (by decide), nice_fits nI (by decide), ?_⟩
    refine ⟨.ref dl, rfl, dl, xs, rfl, .inl (.inl (.inl (s1 _ _ hdl))), ?_⟩
    rw [ll]
    refine ⟨.int (lds.length : Nat), .int (lds.length : Nat), rfl, .int _, nI.sh, .inl nI.nd, Nat.le_trans nI.dp (by decide), nice_fits nI (by decide), rfl, _, rfl, iteNS rfl ?_⟩
    obtain ⟨dx', hx'⟩ := hl1.hx
    exact ⟨.ref c.m, rfl, .ref x, rfl, x, dx', _, rfl, hx', lg_no (NoFL.mk' (by decide +kernel)), x, a, zs, Es, _, D, rfl, hl1, fun b hb => ⟨c, D, zs, b, rfl, model_same hM s1, hb, g, gb, fun H2 s2 => q H2 (s1.trans s2)⟩⟩
end
end Rc

namespace Rc
open PySem PySem.Spec PyProof.Rows L2 RZ LamX
/-! ### a heap without the cells that are written -/
def Rest (H : Hp) (Mu : List Addr) : Hp := fun c => if c ∈ Mu then none else H c
theorem rest_out {H : Hp} {Mu : List Addr} {c : Addr} (h : c ∉ Mu) : Rest H Mu c = H c := if_neg h
theorem rest_of {H : Hp} {Mu : List Addr} {c : Addr} {o : HO} (h : Rest H Mu c = some o) : c ∉ Mu ∧ H c = some o := by
  unfold Rest at h
  split at h
  · cases h
  · exact ⟨by assumption, h⟩
theorem rest_same {H : Hp} {Mu : List Addr} : Same (Rest H Mu) H := fun _ _ h => (rest_of h).2
def MutO (o : HO) : Prop := (∃ xs, o = .lst xs) ∨ ∃ CL dx a b, o = .ins CL dx (lgV a b)
def MuOk (H : Hp) (Mu : List Addr) : Prop := ∀ c ∈ Mu, ∃ o, H c = some o ∧ MutO o
theorem kt_rest {H : Hp} {Mu : List Addr} (mu : MuOk H Mu) : KT H (Rest H Mu) := fun c o e t => by
  rw [rest_out fun hc => ?_]
  · exact e
  obtain ⟨o', e', m⟩ := mu c hc
  rw [e] at e'
  cases e'
  rcases m with ⟨xs, rfl⟩ | ⟨_, _, _, _, rfl⟩ <;> exact t
theorem book_rest {K : PySem.W.Frag} {C : Addr} {H : Hp} {Mu : List Addr} {b : Addr} {M : Bk} (hb : BookAt K C H b M) (mu : MuOk H Mu) : BookAt K C (Rest H Mu) b M := by
  obtain ⟨dx, tn, on, wg, ws, wd, e, h1, hn, h2, h3, h4⟩ := hb.ex
  have kt := kt_rest mu
  have nb : b ∉ Mu := fun hc => by
    obtain ⟨o, e', m⟩ := mu b hc
    rw [e] at e'
    rcases m with ⟨xs, rfl⟩ | ⟨CL, d, p, q, rfl⟩
    · cases e'
    · have h : (4 : Nat) = 2 := congrArg (fun o => match o with | some (HO.ins _ _ fs) => fs.length | _ => 0) e'
      exact absurd h (by decide)
  exact ⟨dx, tn, on, wg, ws, wd, by rw [rest_out nb]; exact e, kt _ _ h1 trivial, hn, Dt.keepT kt _ (tup_ints _) h2, Dt.keepT kt _ (tup_stacks _) h3, Dt.keepT kt _ (tup_ints _) h4⟩
theorem model_rest {K : PySem.W.Frag} {H : Hp} {Mu : List Addr} {zs : List Str} {m : MdA} {E : Md} (hM : ModelAt K H zs m E) (n : ∀ c, m.Has c → c ∉ Mu) (mu : MuOk H Mu) : ModelAt K (Rest H Mu) zs m E :=
  hM.keep (fun d o hd e => by rw [rest_out (n d hd)]; exact e) (kt_rest mu)
def Stay (Mu : List Addr) (H H' : Hp) : Prop := ∀ c o, c ∉ Mu → (∀ ps, o ≠ .tbl ps) → H c = some o → H' c = some o
theorem Stay.trans {Mu : List Addr} {H H1 H2 : Hp} (a : Stay Mu H H1) (b : Stay Mu H1 H2) : Stay Mu H H2 := fun c o n t e => b c o n t (a c o n t e)
theorem Stay.same {Mu : List Addr} {H H1 : Hp} (s : Same H H1) : Stay Mu H H1 := fun c o _ _ e => s c o e
theorem rest_ext {H H' : Hp} {Mu Mu' : List Addr} (st : Stay Mu H H') (fr : ∀ c ∈ Mu', c ∈ Mu ∨ H c = none) : ExtN (Rest H Mu) (Rest H' Mu') := fun c o e t => by
  obtain ⟨n, e'⟩ := rest_of e
  rw [rest_out fun hc => ?_]
  · exact st c o n t e'
  rcases fr c hc with h | h
  · exact n h
  · rw [e'] at h
    cases h
/-! ### a ledger, its models and its deeds -/
structure Ent where
  x : Addr
  a : LdAd
  Es : List Md
  lds : List LDeed
  ms : List MdA
  ml : Addr
  dl : Addr
  xs : List V
structure EntAt (K : PySem.W.Frag) (C CL : Addr) (H : Hp) (Mu : List Addr) (zs : List Str) (e : Ent) : Prop where
  hx : ∃ dx, H e.x = some (.ins CL dx (lgV (.ref e.a.b) (.ref e.a.d)))
  bks : ∃ bs : List Addr, H e.a.b = some (.lst (bs.map V.ref)) ∧ bs.length = e.Es.length ∧ ∀ (i : Nat) (b : Addr) (E : Md), bs[i]? = some b → e.Es[i]? = some E → BookAt K C (Rest H Mu) b (bkOf zs E)
  dds : ∃ ys, H e.a.d = some (.lst ys) ∧ DtAll K (Rest H Mu) ys (e.lds.map ldD)
  ne : e.a.b ≠ e.a.d
  hml : Rest H Mu e.ml = some (.lst (e.ms.map fun m => V.ref m.m))
  mds : ∀ (i : Nat) (m : MdA) (E : Md), e.ms[i]? = some m → e.Es[i]? = some E → ModelAt K (Rest H Mu) zs m E
  hdl : Rest H Mu e.dl = some (.lst e.xs)
  ddl : DtAll K (Rest H Mu) e.xs (e.lds.map ldD)
  l1 : e.Es.length = e.lds.length + 1
  l2 : e.ms.length = e.Es.length
  ok : ∀ l ∈ e.lds, LdOk zs l
  gs : ∀ (i : Nat) (E : Md), e.Es[i]? = some E → Gs zs E ∧ Gb E ∧ Bd E i
  mx : e.x ∈ Mu ∧ e.a.b ∈ Mu ∧ e.a.d ∈ Mu
theorem tup_lds (ls : List LDeed) : tupDs (ls.map ldD) = true := tupDs_map tup_ld ls
section
variable {K : PySem.W.Frag} {C CL : Addr} {H H' : Hp} {Mu Mu' : List Addr} {zs : List Str} {e : Ent}
theorem EntAt.ld (v : EntAt K C CL H Mu zs e) : LdAt K C CL H e.x e.a zs e.Es (e.lds.map ldD) := by
  obtain ⟨bs, e1, e2, e3⟩ := v.bks
  obtain ⟨ys, t1, t2⟩ := v.dds
  exact ⟨v.hx, ⟨bs, e1, e2, fun i b E g1 g2 => book_same (e3 i b E g1 g2) rest_same⟩, ⟨ys, t1, DtAll.same rest_same _ t2⟩, v.ne, tup_lds _⟩
theorem EntAt.move (v : EntAt K C CL H Mu zs e) (x : ExtN (Rest H Mu) (Rest H' Mu')) (k1 : H' e.x = H e.x) (k2 : H' e.a.b = H e.a.b) (k3 : H' e.a.d = H e.a.d) (sub : ∀ c ∈ Mu, c ∈ Mu') : EntAt K C CL H' Mu' zs e := by
  obtain ⟨dx, hx⟩ := v.hx
  obtain ⟨bs, e1, e2, e3⟩ := v.bks
  obtain ⟨ys, t1, t2⟩ := v.dds
  have nt : ∀ {xs : List V}, ∀ ps, HO.lst xs ≠ .tbl ps := by
    intro xs ps z
    cases z
  exact ⟨⟨dx, k1.trans hx⟩, ⟨bs, k2.trans e1, e2, fun i b E g1 g2 => book_ext (e3 i b E g1 g2) x⟩, ⟨ys, k3.trans t1, DtAll.keepT (ext_kt x) _ (tup_lds _) t2⟩, v.ne, x _ _ v.hml nt, fun i m E g1 g2 => model_ext (v.mds i m E g1 g2) x, x _ _ v.hdl nt, DtAll.keepT (ext_kt x) _ (tup_lds _) v.ddl, v.l1, v.l2, v.ok, v.gs, ⟨sub _ v.mx.1, sub _ v.mx.2.1, sub _ v.mx.2.2⟩⟩
/-- from the ledger itself -/
theorem EntAt.of (hl : LdAt K C CL H e.x e.a zs e.Es (e.lds.map ldD)) (mu : MuOk H Mu) (hml : Rest H Mu e.ml = some (.lst (e.ms.map fun m => V.ref m.m))) (mds : ∀ (i : Nat) (m : MdA) (E : Md), e.ms[i]? = some m → e.Es[i]? = some E → ModelAt K (Rest H Mu) zs m E) (hdl : Rest H Mu e.dl = some (.lst e.xs))
    (ddl : DtAll K (Rest H Mu) e.xs (e.lds.map ldD)) (l1 : e.Es.length = e.lds.length + 1) (l2 : e.ms.length = e.Es.length) (ok : ∀ l ∈ e.lds, LdOk zs l) (gs : ∀ (i : Nat) (E : Md), e.Es[i]? = some E → Gs zs E ∧ Gb E ∧ Bd E i) (mx : e.x ∈ Mu ∧ e.a.b ∈ Mu ∧ e.a.d ∈ Mu) : EntAt K C CL H Mu zs e := by
  obtain ⟨bs, e1, e2, e3⟩ := hl.hb
  obtain ⟨ys, t1, t2⟩ := hl.hd
  exact ⟨hl.hx, ⟨bs, e1, e2, fun i b E g1 g2 => book_rest (e3 i b E g1 g2) mu⟩, ⟨ys, t1, DtAll.keepT (kt_rest mu) _ (tup_lds _) t2⟩, hl.ne, hml, mds, hdl, ddl, l1, l2, ok, gs, mx⟩
end
/-- what stands in a cell: all ledgers -/
structure St95 (K : PySem.W.Frag) (C CL : Addr) (T : List (Addr × Str)) (p L : Addr) (zs : List Str) (es : List Ent) (Ts : List Addr) (Mu : List Addr) (H : Hp) : Prop where
  hp : Pot H p
  pM : p ∈ Mu
  hL : H L = some (.lst (Ts.map V.ref))
  LM : L ∈ Mu
  ln : Ts.length = es.length
  row : ∀ (i : Nat) (t : Addr) (e : Ent), Ts[i]? = some t → es[i]? = some e → Rest H Mu t = some (.tup [.ref e.x, .ref e.ml, .ref e.dl]) ∧ EntAt K C CL H Mu zs e
  nd : (p :: L :: es.flatMap fun e => [e.x, e.a.b, e.a.d]).Nodup
  mu : MuOk H Mu
  tb : Tabs T H
  nz : NamesOk zs
end Rc

namespace Rc
open PySem PySem.Spec PyProof.Rows L2 RZ LamX
abbrev cellsE (e : Ent) : List Addr := [e.x, e.a.b, e.a.d]
theorem mem_flat {es : List Ent} {c : Addr} : c ∈ es.flatMap cellsE ↔ ∃ e ∈ es, c ∈ cellsE e := List.mem_flatMap
theorem out_free {H : Hp} {Mu : List Addr} {c : Addr} (mu : MuOk H Mu) (n : H c = none) : c ∉ Mu := fun h => by
  obtain ⟨o, e, _⟩ := mu c h
  rw [n] at e
  cases e
theorem rest_in {H : Hp} {Mu : List Addr} {c : Addr} {o : HO} (n : c ∉ Mu) (e : H c = some o) : Rest H Mu c = some o := (rest_out n).trans e
theorem rest_some {H : Hp} {Mu : List Addr} {c : Addr} {o : HO} (h : Rest H Mu c = some o) : c ∉ Mu := (rest_of h).1
/-- how the heap goes on -/
structure Mvd (Mu : List Addr) (H : Hp) (Mu' : List Addr) (H' : Hp) : Prop where
  st : Stay Mu H H'
  fr : ∀ c ∈ Mu', c ∈ Mu ∨ H c = none
  sub : ∀ c ∈ Mu, c ∈ Mu'
theorem Mvd.rf (Mu : List Addr) (H : Hp) : Mvd Mu H Mu H := ⟨fun _ _ _ _ e => e, fun _ h => .inl h, fun _ h => h⟩
theorem Mvd.trans {Mu Mu1 Mu2 : List Addr} {H H1 H2 : Hp} (a : Mvd Mu H Mu1 H1) (b : Mvd Mu1 H1 Mu2 H2) (hn : ∀ c, H1 c = none → H c = none) : Mvd Mu H Mu2 H2 :=
  ⟨fun c o n t e => b.st c o (fun h => (a.fr c h).elim n fun z => by rw [z] at e; cases e) t (a.st c o n t e),
   fun c h => (b.fr c h).elim (a.fr c) fun z => .inr (hn c z), fun c h => b.sub c (a.sub c h)⟩
theorem Mvd.ext {Mu Mu' : List Addr} {H H' : Hp} (m : Mvd Mu H Mu' H') : ExtN (Rest H Mu) (Rest H' Mu') := rest_ext m.st m.fr
theorem Mvd.rest {Mu Mu' : List Addr} {H H' : Hp} {c : Addr} {o : HO} (m : Mvd Mu H Mu' H') (e : Rest H Mu c = some o) (t : ∀ ps, o ≠ .tbl ps) : Rest H' Mu' c = some o := m.ext c o e t
/-- a ledger aside from a cell that is no part of it -/
theorem LdAt.butX {K : PySem.W.Frag} {C CL : Addr} {H H' : Hp} {x : Addr} {a : LdAd} {zs : List Str} {Es : List Md} {ls : List PyData} {q : Addr} (h : LdAt K C CL H x a zs Es ls) (b : But q H H') (hq : ∃ xs, H q = some (.lst xs)) (n1 : q ≠ a.b) (n2 : q ≠ a.d) : LdAt K C CL H' x a zs Es ls := by
  obtain ⟨dx, hx⟩ := h.hx
  obtain ⟨bs, e1, e2, e3⟩ := h.hb
  obtain ⟨xs, t1, t2⟩ := h.hd
  obtain ⟨qs, hq⟩ := hq
  have kt : KT H H' := fun c o e t => b c o (fun z => by rw [z, hq] at e; cases e; exact t) e
  refine ⟨⟨dx, b _ _ (fun z => by rw [z, hq] at hx; cases hx) hx⟩, ⟨bs, b _ _ n1.symm e1, e2, fun i c E g1 g2 => ?_⟩, ⟨xs, b _ _ n2.symm t1, DtAll.keepT kt _ h.tp t2⟩, h.ne, h.tp⟩
  obtain ⟨dx', tn, on, wg, ws, wd, e, h1, hn, h2, h3, h4⟩ := (e3 i c E g1 g2).ex
  exact ⟨dx', tn, on, wg, ws, wd, b _ _ (fun z => by rw [z, hq] at e; cases e) e, kt _ _ h1 trivial, hn, Dt.keepT kt _ (tup_ints _) h2, Dt.keepT kt _ (tup_stacks _) h3, Dt.keepT kt _ (tup_ints _) h4⟩
theorem ldA_b {K : PySem.W.Frag} {C CL : Addr} {H : Hp} {x : Addr} {a : LdAd} {zs : List Str} {Es : List Md} {ls : List PyData} (h : LdAt K C CL H x a zs Es ls) : (∃ xs, H a.b = some (.lst xs)) ∧ (∃ xs, H a.d = some (.lst xs)) ∧ a.b ≠ a.d ∧ x ≠ a.b ∧ x ≠ a.d := by
  obtain ⟨dx, hx⟩ := h.hx
  obtain ⟨bs, e1, _⟩ := h.hb
  obtain ⟨xs, t1, _⟩ := h.hd
  exact ⟨⟨_, e1⟩, ⟨_, t1⟩, h.ne, (fun z => by rw [← z, hx] at e1; cases e1), (fun z => by rw [← z, hx] at t1; cases t1)⟩
theorem ld_mut {K : PySem.W.Frag} {C CL : Addr} {H : Hp} {x : Addr} {a : LdAd} {zs : List Str} {Es : List Md} {ls : List PyData} (h : LdAt K C CL H x a zs Es ls) {c : Addr} (hc : c ∈ [x, a.b, a.d]) : ∃ o, H c = some o ∧ MutO o := by
  obtain ⟨dx, hx⟩ := h.hx
  obtain ⟨bs, e1, _⟩ := h.hb
  obtain ⟨xs, t1, _⟩ := h.hd
  simp only [List.mem_cons, List.not_mem_nil, or_false] at hc
  rcases hc with rfl | rfl | rfl
  · exact ⟨_, hx, .inr ⟨_, _, _, _, rfl⟩⟩
  · exact ⟨_, e1, .inl ⟨_, rfl⟩⟩
  · exact ⟨_, t1, .inl ⟨_, rfl⟩⟩
section
variable {K : PySem.W.Frag} {C CL : Addr} {T : List (Addr × Str)} {p L : Addr} {zs : List Str} {es es' : List Ent} {Ts Ts' : List Addr} {Mu Mu' : List Addr} {H H' : Hp}
theorem St95.offs (v : St95 K C CL T p L zs es Ts Mu H) {e : Ent} (he : e ∈ es) {c : Addr} (hc : c ∈ cellsE e) : c ≠ p ∧ c ≠ L := by
  have nd := v.nd
  have m : c ∈ es.flatMap cellsE := mem_flat.mpr ⟨e, he, hc⟩
  rw [List.nodup_cons, List.nodup_cons] at nd
  exact ⟨fun z => nd.1 (z ▸ List.mem_cons_of_mem _ m), fun z => nd.2.1 (z ▸ m)⟩
theorem St95.pL (v : St95 K C CL T p L zs es Ts Mu H) : p ≠ L := by
  have nd := v.nd
  rw [List.nodup_cons] at nd
  exact fun z => nd.1 (z ▸ List.mem_cons_self)
theorem apart_flat : ∀ {es : List Ent} {i j : Nat} {e f : Ent}, (es.flatMap cellsE).Nodup → es[i]? = some e → es[j]? = some f → i ≠ j → ∀ c ∈ cellsE e, ∀ d ∈ cellsE f, c ≠ d
  | [], i, j, e, f, _, hi, _, _, _, _, _, _ => by cases hi
  | g :: es, 0, 0, e, f, _, _, _, n, _, _, _, _ => absurd rfl n
  | g :: es, 0, j + 1, e, f, nd, hi, hj, _, c, hc, d, hd => by
    cases hi
    rw [List.flatMap_cons, List.nodup_append] at nd
    exact nd.2.2 c hc d (mem_flat.mpr ⟨f, List.mem_of_getElem? hj, hd⟩)
  | g :: es, i + 1, 0, e, f, nd, hi, hj, _, c, hc, d, hd => by
    cases hj
    rw [List.flatMap_cons, List.nodup_append] at nd
    exact (nd.2.2 d hd c (mem_flat.mpr ⟨e, List.mem_of_getElem? hi, hc⟩)).symm
  | g :: es, i + 1, j + 1, e, f, nd, hi, hj, n, c, hc, d, hd => by
    rw [List.flatMap_cons, List.nodup_append] at nd
    exact apart_flat nd.2.1 hi hj (fun z => n (by rw [z])) c hc d hd
theorem St95.apart (v : St95 K C CL T p L zs es Ts Mu H) {i j : Nat} {e f : Ent} (hi : es[i]? = some e) (hj : es[j]? = some f) (n : i ≠ j) {c d : Addr} (hc : c ∈ cellsE e) (hd : d ∈ cellsE f) : c ≠ d := by
  have nd := v.nd
  rw [List.nodup_cons, List.nodup_cons] at nd
  exact apart_flat nd.2.2 hi hj n c hc d hd
theorem St95.get (v : St95 K C CL T p L zs es Ts Mu H) {i : Nat} (hi : i < es.length) : ∃ t e, Ts[i]? = some t ∧ es[i]? = some e ∧ Rest H Mu t = some (.tup [.ref e.x, .ref e.ml, .ref e.dl]) ∧ EntAt K C CL H Mu zs e := by
  have hT : i < Ts.length := by rw [v.ln]; exact hi
  obtain ⟨h1, h2⟩ := v.row i Ts[i] es[i] (List.getElem?_eq_getElem hT) (List.getElem?_eq_getElem hi)
  exact ⟨_, _, List.getElem?_eq_getElem hT, List.getElem?_eq_getElem hi, h1, h2⟩
/-- all goes on -/
theorem St95.next (v : St95 K C CL T p L zs es Ts Mu H) (m : Mvd Mu H Mu' H') (mu' : MuOk H' Mu') (hp : Pot H' p) (hL : H' L = some (.lst (Ts'.map V.ref))) (ln : Ts'.length = es'.length)
    (row' : ∀ (i : Nat) (t : Addr) (e : Ent), Ts'[i]? = some t → es'[i]? = some e → (∃ j : Nat, Ts[j]? = some t ∧ es[j]? = some e ∧ H' e.x = H e.x ∧ H' e.a.b = H e.a.b ∧ H' e.a.d = H e.a.d) ∨ (Rest H' Mu' t = some (.tup [.ref e.x, .ref e.ml, .ref e.dl]) ∧ EntAt K C CL H' Mu' zs e))
    (nd : (p :: L :: es'.flatMap cellsE).Nodup) (tb : Tabs T H') : St95 K C CL T p L zs es' Ts' Mu' H' := by
  refine ⟨hp, m.sub _ v.pM, hL, m.sub _ v.LM, ln, fun i t e h1 h2 => ?_, nd, mu', tb, v.nz⟩
  rcases row' i t e h1 h2 with ⟨j, g1, g2, k1, k2, k3⟩ | h
  · obtain ⟨r1, r2⟩ := v.row j t e g1 g2
    exact ⟨m.rest r1 (by intro ps z; cases z), r2.move m.ext k1 k2 k3 m.sub⟩
  · exact h
theorem MuOk.same (mu : MuOk H Mu) (s : Same H H') : MuOk H' Mu := fun c hc => by
  obtain ⟨o, e, m⟩ := mu c hc
  exact ⟨o, s _ _ e, m⟩
theorem MuOk.but {q : Addr} (mu : MuOk H Mu) (b : But q H H') (hq : ∃ o, H' q = some o ∧ MutO o) : MuOk H' Mu := fun c hc => by
  by_cases hcq : c = q
  · subst hcq
    exact hq
  obtain ⟨o, e, m⟩ := mu c hc
  exact ⟨o, b _ _ hcq e, m⟩
theorem Pot.mut (h : Pot H p) : ∃ o, H p = some o ∧ MutO o := by
  obtain ⟨x, y, e, _⟩ := h
  exact ⟨_, e, .inl ⟨_, rfl⟩⟩
/-- allocations -/
theorem St95.same (v : St95 K C CL T p L zs es Ts Mu H) (s : Same H H') : St95 K C CL T p L zs es Ts Mu H' := by
  have key : ∀ {c : Addr}, c ∈ Mu → H' c = H c := fun hc => by
    obtain ⟨o, e, _⟩ := v.mu _ hc
    rw [e]
    exact s _ _ e
  refine v.next ⟨Stay.same s, fun _ h => .inl h, fun _ h => h⟩ (v.mu.same s) (v.hp.same s) (s _ _ v.hL) v.ln (fun i t e h1 h2 => .inl ⟨i, h1, h2, ?_⟩) v.nd (v.tb.ext s)
  have mx := (v.row i t e h1 h2).2.mx
  exact ⟨key mx.1, key mx.2.1, key mx.2.2⟩
/-- the pot goes on -/
theorem St95.pot (v : St95 K C CL T p L zs es Ts Mu H) (b : But p H H') (hp : Pot H' p) : St95 K C CL T p L zs es Ts Mu H' := by
  have pe : ∃ o, H p = some o ∧ (∀ ps, o ≠ .tbl ps) ∧ ∀ c q, o ≠ CodeO c q := by
    obtain ⟨x, y, e, _⟩ := v.hp
    exact ⟨_, e, (by intro ps z; cases z), lst_code⟩
  refine v.next ⟨fun c o n t e => b c o (fun z => n (z ▸ v.pM)) e, fun _ h => .inl h, fun _ h => h⟩ (v.mu.but b hp.mut) hp (b _ _ v.pL.symm v.hL) v.ln (fun i t e h1 h2 => .inl ⟨i, h1, h2, ?_⟩) v.nd (tabs_but v.tb b pe)
  have he := List.mem_of_getElem? h2
  have mx := (v.row i t e h1 h2).2.mx
  have key : ∀ {c : Addr}, c ∈ Mu → c ∈ cellsE e → H' c = H c := fun hc hm => by
    obtain ⟨o, e1, _⟩ := v.mu _ hc
    rw [e1]
    exact b _ _ (v.offs he hm).1 e1
  exact ⟨key mx.1 (by simp), key mx.2.1 (by simp), key mx.2.2 (by simp)⟩
end
theorem last_of {α : Type} : ∀ {l : List α} {n : Nat}, l.length = n + 1 → ∃ r x, l = r ++ [x] ∧ r.length = n := fun {l n} h => by
  have hn : l ≠ [] := fun z => by rw [z] at h; cases h
  refine ⟨l.dropLast, l.getLast hn, (List.dropLast_concat_getLast hn).symm, ?_⟩
  rw [List.length_dropLast]
  omega
/-- no cell twice, when one entry's are put in place of another's -/
theorem nd_set {p L : Addr} {es : List Ent} {i : Nat} {e e' : Ent} (nd : (p :: L :: es.flatMap cellsE).Nodup) (hi : es[i]? = some e) (h : (cellsE e').Nodup) (hn : ∀ c ∈ cellsE e', c ∈ cellsE e ∨ c ∉ (p :: L :: es.flatMap cellsE)) : (p :: L :: (es.set i e').flatMap cellsE).Nodup := by
  have il : i < es.length := (List.getElem?_eq_some_iff.mp hi).1
  have ee : es[i] = e := (List.getElem?_eq_some_iff.mp hi).2
  have e1 : es = es.take i ++ e :: es.drop (i + 1) := by
    rw [← ee, ← List.drop_eq_getElem_cons il, List.take_append_drop]
  have e2 : es.set i e' = es.take i ++ e' :: es.drop (i + 1) := by
    rw [List.set_eq_take_append_cons_drop, if_pos il]
  rw [e2]
  rw [e1] at nd hn
  generalize es.take i = A at nd hn ⊢
  generalize es.drop (i + 1) = B at nd hn ⊢
  simp only [List.flatMap_append, List.flatMap_cons, List.nodup_cons, List.mem_cons, List.mem_append, List.nodup_append] at nd hn h ⊢
  grind
theorem nd_snoc {p L : Addr} {es : List Ent} {e' : Ent} (nd : (p :: L :: es.flatMap cellsE).Nodup) (h : (cellsE e').Nodup) (hn : ∀ c ∈ cellsE e', c ∉ (p :: L :: es.flatMap cellsE)) : (p :: L :: (es ++ [e']).flatMap cellsE).Nodup := by
  simp only [List.flatMap_append, List.flatMap_cons, List.flatMap_nil, List.append_nil, List.nodup_cons, List.mem_cons, List.mem_append, List.nodup_append] at nd hn h ⊢
  grind
end Rc

namespace Rc
open PySem PySem.Spec PyProof.Rows L2 RZ LamX
/-- a deed leads to one model -/
theorem after_one {zs : List Str} {D E E' : Md} {ld : LDeed} (h : After zs D ld E) (h' : After zs D ld E') : E = E' := by
  cases ld with
  | dd d => exact Eq.trans h (Eq.symm h')
  | se =>
    obtain ⟨g1, b1, e1, n1, s1⟩ := h
    obtain ⟨g2, b2, e2, n2, s2⟩ := h'
    exact settled_one g2 b2 g1 b1 (e1.trans e2.symm) (n1.trans n2.symm) s2 s1
  | st wd z m =>
    obtain ⟨r, c, e⟩ := h
    obtain ⟨r', c', e'⟩ := h'
    have : r = r' := by
      rcases c.kd with ⟨w1, k1⟩ | ⟨w1, k1⟩ <;> rcases c'.kd with ⟨w2, k2⟩ | ⟨w2, k2⟩
      · rw [k1, k2]
      · rw [w1] at w2
        exact absurd w2 (by decide +kernel)
      · rw [w1] at w2
        exact absurd w2 (by decide +kernel)
      · exact Option.some.inj (k1.symm.trans k2)
    rw [e, e', this]
theorem after_ok {zs : List Str} {D E : Md} {ld : LDeed} {k : Nat} (g : Gs zs D) (gb : Gb D) (bd : Bd D k) (hk : k + 1 ≤ 60) (ok : LdOk zs ld) (h : After zs D ld E) : Gs zs E ∧ Gb E ∧ Bd E (k + 1) := by
  cases ld with
  | dd d =>
    have e : E = doneD zs D d := h
    rw [e]
    exact deed_ok g gb bd hk ok
  | se =>
    obtain ⟨g1, b1, e1, n1, s1⟩ := h
    exact ⟨g1, b1, (bd.keeps e1 n1).mono (Nat.le_succ _)⟩
  | st wd z m =>
    obtain ⟨r, c, e⟩ := h
    rw [e]
    have kp := fallAll_keeps zs m r D
    exact ⟨c.g, c.gb, (bd.keeps kp.1 kp.2.1).mono (Nat.le_succ _)⟩
theorem mut_nt {o : HO} (m : MutO o) : ∀ ps, o ≠ .tbl ps := by
  rintro ps rfl
  rcases m with ⟨xs, h⟩ | ⟨_, _, _, _, h⟩ <;> cases h
section
variable {K : PySem.W.Frag} {C CL : Addr} {T : List (Addr × Str)} {p L : Addr} {zs : List Str} {es : List Ent} {Ts : List Addr} {Mu : List Addr} {H H' : Hp} {e' : Ent} {t' : Addr}
/-- what a new entry wants -/
structure NewE (K : PySem.W.Frag) (C CL : Addr) (H : Hp) (Mu : List Addr) (H' : Hp) (zs : List Str) (e' : Ent) (t' : Addr) : Prop where
  ld : LdAt K C CL H' e'.x e'.a zs e'.Es (e'.lds.map ldD)
  ht : H' t' = some (.tup [.ref e'.x, .ref e'.ml, .ref e'.dl])
  nt : t' ∉ Mu
  hml : H' e'.ml = some (.lst (e'.ms.map fun m => V.ref m.m))
  nml : e'.ml ∉ Mu
  hdl : H' e'.dl = some (.lst e'.xs)
  ndl : e'.dl ∉ Mu
  off : e'.ml ∉ cellsE e' ∧ e'.dl ∉ cellsE e'
  mds : ∀ (j : Nat) (m : MdA) (E : Md), e'.ms[j]? = some m → e'.Es[j]? = some E → ModelAt K (Rest H Mu) zs m E ∨ (ModelAt K H' zs m E ∧ ∀ c, m.Has c → c ∉ Mu ∧ c ∉ cellsE e')
  ddl : DtAll K H' e'.xs (e'.lds.map ldD)
  l1 : e'.Es.length = e'.lds.length + 1
  l2 : e'.ms.length = e'.Es.length
  ok : ∀ l ∈ e'.lds, LdOk zs l
  gs : ∀ (i : Nat) (E : Md), e'.Es[i]? = some E → Gs zs E ∧ Gb E ∧ Bd E i
theorem NewE.ent (n : NewE K C CL H Mu H' zs e' t') (mu : MuOk H Mu) (mv : Mvd Mu H (Mu ++ cellsE e') H') (mu' : MuOk H' (Mu ++ cellsE e')) : Rest H' (Mu ++ cellsE e') t' = some (.tup [.ref e'.x, .ref e'.ml, .ref e'.dl]) ∧ EntAt K C CL H' (Mu ++ cellsE e') zs e' := by
  have out : ∀ {c}, c ∉ Mu → c ∉ cellsE e' → c ∉ Mu ++ cellsE e' := fun n1 n2 h => (List.mem_append.mp h).elim n1 n2
  have tc : t' ∉ cellsE e' := fun hc => by
    obtain ⟨o, eo, mo⟩ := ld_mut n.ld hc
    rw [n.ht] at eo
    cases eo
    rcases mo with ⟨_, h⟩ | ⟨_, _, _, _, h⟩ <;> cases h
  refine ⟨rest_in (out n.nt tc) n.ht, EntAt.of n.ld mu' (rest_in (out n.nml n.off.1) n.hml) (fun j m E h1 h2 => ?_) (rest_in (out n.ndl n.off.2) n.hdl) (DtAll.keepT (kt_rest mu') _ (tup_lds _) n.ddl) n.l1 n.l2 n.ok n.gs ⟨by simp, by simp, by simp⟩⟩
  rcases n.mds j m E h1 h2 with h | ⟨h, hc⟩
  · exact model_ext h mv.ext
  · exact model_rest h (fun c hh => out (hc c hh).1 (hc c hh).2) mu'
theorem ld_nodup {x : Addr} {a : LdAd} {Es : List Md} {ls : List PyData} (h : LdAt K C CL H x a zs Es ls) : [x, a.b, a.d].Nodup := by
  obtain ⟨_, _, h1, h2, h3⟩ := ldA_b h
  simp [h1, h2, h3]
theorem St95.cellM (v : St95 K C CL T p L zs es Ts Mu H) {e : Ent} (he : e ∈ es) {c : Addr} (hc : c ∈ cellsE e) : c ∈ Mu := by
  obtain ⟨j, hj⟩ := List.mem_iff_getElem?.mp he
  have jl : j < es.length := (List.getElem?_eq_some_iff.mp hj).1
  obtain ⟨t, e2, h1, h2, _, ve⟩ := v.get jl
  rw [hj] at h2
  cases h2
  have mx := ve.mx
  simp only [List.mem_cons, List.not_mem_nil, or_false] at hc
  rcases hc with rfl | rfl | rfl
  · exact mx.1
  · exact mx.2.1
  · exact mx.2.2
theorem St95.allM (v : St95 K C CL T p L zs es Ts Mu H) {c : Addr} (hc : c ∈ p :: L :: es.flatMap cellsE) : c ∈ Mu := by
  simp only [List.mem_cons] at hc
  rcases hc with rfl | rfl | hc
  · exact v.pM
  · exact v.LM
  · obtain ⟨e, he, h⟩ := mem_flat.mp hc
    exact v.cellM he h
theorem St95.put1 (v : St95 K C CL T p L zs es Ts Mu H) {i : Nat} {t : Addr} {e : Ent} (ht : Ts[i]? = some t) (he : es[i]? = some e) (st : ∀ c o, c ≠ p → c ≠ L → c ∉ cellsE e → (∀ ps, o ≠ .tbl ps) → H c = some o → H' c = some o) (hp : Pot H' p) (hL : H' L = some (.lst ((Ts.set i t').map V.ref))) (tb : Tabs T H')
    (me : ∀ c ∈ cellsE e, ∃ o, H' c = some o ∧ MutO o) (fr : ∀ c ∈ cellsE e', c ∈ cellsE e ∨ H c = none) (nw : NewE K C CL H Mu H' zs e' t') : St95 K C CL T p L zs (es.set i e') (Ts.set i t') (Mu ++ cellsE e') H' ∧ Mvd Mu H (Mu ++ cellsE e') H' := by
  have em := List.mem_of_getElem? he
  have mv : Mvd Mu H (Mu ++ cellsE e') H' := ⟨fun c o n t e => st c o (fun z => n (z ▸ v.pM)) (fun z => n (z ▸ v.LM)) (fun h => n (v.cellM em h)) t e, fun c h => (List.mem_append.mp h).elim .inl fun h => (fr c h).imp (v.cellM em) id, fun c h => List.mem_append_left _ h⟩
  have mu' : MuOk H' (Mu ++ cellsE e') := fun c hc => by
    rcases List.mem_append.mp hc with hc | hc
    · by_cases cp : c = p
      · exact cp ▸ hp.mut
      by_cases cL : c = L
      · exact cL ▸ ⟨_, hL, .inl ⟨_, rfl⟩⟩
      by_cases ce : c ∈ cellsE e
      · exact me c ce
      obtain ⟨o, eo, mo⟩ := v.mu c hc
      exact ⟨o, st c o cp cL ce (mut_nt mo) eo, mo⟩
    · exact ld_mut nw.ld hc
  have ent := nw.ent v.mu mv mu'
  have il : i < es.length := (List.getElem?_eq_some_iff.mp he).1
  refine ⟨v.next mv mu' hp hL (by rw [List.length_set, List.length_set]; exact v.ln) (fun j t2 e2 h1 h2 => ?_) (nd_set v.nd he (ld_nodup nw.ld) fun c hc => (fr c hc).imp id fun n h => out_free v.mu n (v.allM h)) tb, mv⟩
  by_cases ij : i = j
  · subst ij
    rw [List.getElem?_set_self (by rw [v.ln]; exact il)] at h1
    rw [List.getElem?_set_self il] at h2
    cases h1
    cases h2
    exact .inr ent
  · rw [List.getElem?_set_ne ij] at h1 h2
    refine .inl ⟨j, h1, h2, ?_⟩
    have key : ∀ c ∈ cellsE e2, H' c = H c := fun c hc => by
      have e2m := List.mem_of_getElem? h2
      obtain ⟨o, eo, mo⟩ := v.mu c (v.cellM e2m hc)
      rw [eo]
      have off := v.offs e2m hc
      exact st c o off.1 off.2 (fun h => v.apart he h2 ij h hc rfl) (mut_nt mo) eo
    exact ⟨key _ (by simp), key _ (by simp), key _ (by simp)⟩
theorem St95.app1 (v : St95 K C CL T p L zs es Ts Mu H) (st : ∀ c o, c ≠ p → c ≠ L → (∀ ps, o ≠ .tbl ps) → H c = some o → H' c = some o) (hp : Pot H' p) (hL : H' L = some (.lst ((Ts ++ [t']).map V.ref))) (tb : Tabs T H')
    (fr : ∀ c ∈ cellsE e', H c = none) (nw : NewE K C CL H Mu H' zs e' t') : St95 K C CL T p L zs (es ++ [e']) (Ts ++ [t']) (Mu ++ cellsE e') H' ∧ Mvd Mu H (Mu ++ cellsE e') H' := by
  have mv : Mvd Mu H (Mu ++ cellsE e') H' := ⟨fun c o n t e => st c o (fun z => n (z ▸ v.pM)) (fun z => n (z ▸ v.LM)) t e, fun c h => (List.mem_append.mp h).elim .inl fun h => .inr (fr c h), fun c h => List.mem_append_left _ h⟩
  have mu' : MuOk H' (Mu ++ cellsE e') := fun c hc => by
    rcases List.mem_append.mp hc with hc | hc
    · by_cases cp : c = p
      · exact cp ▸ hp.mut
      by_cases cL : c = L
      · exact cL ▸ ⟨_, hL, .inl ⟨_, rfl⟩⟩
      obtain ⟨o, eo, mo⟩ := v.mu c hc
      exact ⟨o, st c o cp cL (mut_nt mo) eo, mo⟩
    · exact ld_mut nw.ld hc
  have ent := nw.ent v.mu mv mu'
  refine ⟨v.next mv mu' hp hL (by rw [List.length_append, List.length_append, v.ln]; rfl) (fun j t2 e2 h1 h2 => ?_) (nd_snoc v.nd (ld_nodup nw.ld) fun c hc h => out_free v.mu (fr c hc) (v.allM h)) tb, mv⟩
  by_cases jl : j < es.length
  · rw [List.getElem?_append_left (by rw [v.ln]; exact jl)] at h1
    rw [List.getElem?_append_left jl] at h2
    refine .inl ⟨j, h1, h2, ?_⟩
    have key : ∀ c ∈ cellsE e2, H' c = H c := fun c hc => by
      have e2m := List.mem_of_getElem? h2
      obtain ⟨o, eo, mo⟩ := v.mu c (v.cellM e2m hc)
      rw [eo]
      have off := v.offs e2m hc
      exact st c o off.1 off.2 (mut_nt mo) eo
    exact ⟨key _ (by simp), key _ (by simp), key _ (by simp)⟩
  · have je : j = es.length := by
      have := (List.getElem?_eq_some_iff.mp h2).1
      rw [List.length_append] at this
      have : j < es.length + 1 := this
      omega
    subst je
    rw [List.getElem?_append_right (by rw [v.ln]; exact Nat.le_refl _), v.ln, Nat.sub_self] at h1
    rw [List.getElem?_append_right (Nat.le_refl _), Nat.sub_self] at h2
    cases h1
    cases h2
    exact .inr ent
end
end Rc

namespace Rc
open PySem PySem.Spec PyProof.Rows L2 RZ LamX
theorem ixN_at {n j : Nat} (hj : j < n) : ixN n (j : Int) = some j := by
  unfold ixN
  rw [if_pos (by omega), if_pos (by omega)]
  simp
theorem tabs_kp {T : List (Addr × Str)} {G G' : Hp} (t : Tabs T G) (k : Kp G G') : Tabs T G' := fun x hx => by
  obtain ⟨ps, h1, h2, h3⟩ := t x hx
  refine ⟨ps, k _ _ h1 trivial, h2, fun pos cv hc => ?_⟩
  obtain ⟨c, e1, e2⟩ := h3 pos cv hc
  exact ⟨c, e1, k _ _ e2 (by unfold CodeO; trivial)⟩
theorem ModelAt.cellK {K : PySem.W.Frag} {H : Hp} {zs : List Str} {a : MdA} {D : Md} (h : ModelAt K H zs a D) {c : Addr} (hc : a.Has c) : (∃ m, H c = some (.dK m)) ∨ ∃ xs, H c = some (.lst xs) := by
  rcases hc with rfl | rfl | rfl | rfl | rfl | hc
  · exact .inl ⟨_, h.hm⟩
  · exact .inr ⟨_, h.ho⟩
  · exact .inl ⟨_, h.hg⟩
  · exact .inl ⟨_, h.hf⟩
  · exact .inl ⟨_, h.hn⟩
  · exact .inr (h.row_some hc)
theorem DdAt.keep {K : PySem.W.Frag} {H H' : Hp} {v : V} {zs : List Str} {D : Md} (kt : KT H H') : ∀ {ld : LDeed}, DdAt K H v zs D ld → DdAt K H' v zs D ld
  | .dd d, h => ⟨Dt.keepT kt _ (tup_deed d) h.1, h.2⟩
  | .st _ _ _, ⟨t, r, e, ht, cd⟩ => ⟨t, r, e, kt _ _ ht trivial, cd⟩
  | .se, ⟨t, e, ht⟩ => ⟨t, e, kt _ _ ht trivial⟩
theorem LdAt.keepM {K : PySem.W.Frag} {C CL : Addr} {H H' : Hp} {x : Addr} {a : LdAd} {zs : List Str} {Es : List Md} {ls : List PyData} (h : LdAt K C CL H x a zs Es ls) (kp : Kp H H') (k : ∀ q ∈ [a.b, a.d], ∀ o, H q = some o → H' q = some o) : LdAt K C CL H' x a zs Es ls := by
  obtain ⟨dx, hx⟩ := h.hx
  obtain ⟨bs, e1, e2, e3⟩ := h.hb
  obtain ⟨xs, t1, t2⟩ := h.hd
  exact ⟨⟨dx, kp _ _ hx trivial⟩, ⟨bs, k _ (by simp) _ e1, e2, fun i b E g1 g2 => (e3 i b E g1 g2).keep kp⟩, ⟨xs, k _ (by simp) _ t1, DtAll.keepT kp.kt _ h.tp t2⟩, h.ne, h.tp⟩
section
variable {P : Program} {w : World} {K : PySem.W.Frag} {mg : Str → Option Value} {base : Heap}
/-! ### _law_round -/
abbrev sLRn : Stmt := topS 79
abbrev nLRn : List Str := ["_law_pot_here", "_law_all_of_them", "_law_at", "_law_ledger", "_law_models", "_law_deeds_here", "_law_way", "_law_less", "_law_there", "_law_deed"]
theorem scLRn : FnScope nLRn ["_law_pot_here", "_law_all_of_them"] (defScope sLRn) := ⟨rfl, rfl, rfl, by decide +kernel, rfl, by decide +kernel, by decide +kernel⟩
def spLRn (K : PySem.W.Frag) (C CL : Addr) (T : List (Addr × Str)) : Sp := fun vs H Q _ => ∃ (p L : Addr) (zs : List Str) (es : List Ent) (Ts Mu : List Addr) (k : Nat), vs = [.ref p, .ref L] ∧ St95 K C CL T p L zs es Ts Mu H ∧ 1 ≤ es.length ∧ es.length ≤ 5 ∧ (∀ e ∈ es, e.lds.length ≤ k) ∧ k ≤ 30 ∧
  ∀ es' Ts' Mu' H', St95 K C CL T p L zs es' Ts' Mu' H' → Mvd Mu H Mu' H' → 1 ≤ es'.length → es'.length ≤ 5 → (∀ e ∈ es', e.lds.length ≤ k + 1) → Q .non H'
set_option maxHeartbeats 2000000 in
theorem ok_lrn {f fT f1 f2 f3 f4 f5 f6 C CL : Addr} {fd fdT fd1 fd2 fd3 fd4 fd5 fd6 : FuncData} {T : List (Addr × Str)} (F : Fun K "_law_round" "_law_round" sLRn f fd) (TL : ClsL K CL) (B : Blt mg) (B2 : Blt2 mg) (B3 : Blt3 mg) (TK : HasTake P w K mg base fT fdT) (CP : HasM P w K mg base CL 7 "copied" ["self"] (spLgC K C CL) f1 fd1) (BA : HasM P w K mg base CL 2 "back" ["self", "many"] (spLgBa K C CL) f2 fd2)
    (CO : Has P w K mg base 2 "_law_copied" ["_law_model_here"] (spLCp K) f3 fd3) (DD : Has P w K mg base 7 "_law_deed_drawn" ["_law_pot_here", "_law_model_here", "_law_size"] (spLDd K) f4 fd4) (LD : Has P w K mg base 12 "_law_ledger_did" ["_law_ledger", "_law_deed"] (spLLd K C CL T) f5 fd5) (MD : Has P w K mg base 8 "_law_model_did" ["_law_model_here", "_law_deed"] (spLMdd K) f6 fd6) :
    FnOk P w K mg base CX0 13 f fd ["_law_pot_here", "_law_all_of_them"] (spLRn K C CL T) := by
  refine F.ok scLRn (fun vs H Q E h => ?_) (fun cdv Ar outer s H vs Q E0 hr h => ?_)
  · obtain ⟨_, _, _, _, _, _, _, rfl, _⟩ := h
    rfl
  · obtain ⟨p, L, zs, es, Ts, Mu, k, rfl, v, ln1, ln5, lk, k30, q⟩ := h
    have hr1 := hr.mono (show 1 ≤ 12 by decide)
    have hr2 := hr.mono (show 2 ≤ 12 by decide)
    have hr7 := hr.mono (show 7 ≤ 12 by decide)
    have hr8 := hr.mono (show 8 ≤ 12 by decide)
    refine ⟨_, (pss_cons (ps_set (i := 2) scLRn.nd rfl (.inl rfl) (pe_call TK.ok hr1 (by rfl) TK.g TK.kp TK.b .nil pass0 (pa_cons (pv 0) (pa_cons (pe_callB call_len_seq (by rfl) B.len PySem.boot_len (pa_cons (pv 1) pa_nil)) pa_nil)))) (pss_cons (ps_asg (pe_ix ix_list (pv 1) (pv 2) (fun _ _ => rfl)) (pg_tup rfl (pgs_cons (pg_name (i := 3) scLRn.nd rfl (.inl rfl)) (pgs_cons (pg_name (i := 4) scLRn.nd rfl (.inl rfl)) (pgs_cons (pg_name (i := 5) scLRn.nd rfl (.inl rfl)) pgs_nil))))) (pss_cons (ps_set (i := 6) scLRn.nd rfl (.inl rfl) (pe_call TK.ok hr1 (by rfl) TK.g TK.kp TK.b .nil pass0 (pa_cons (pv 0) (pa_cons pe_int pa_nil)))) (pss_one (ps_if (PW.pt (pw_and (pt_cmpR op_eq (pv 6) pe_int (nomark _)) (pw_and1 (pt_cmpR op_lt (pe_callB call_len_seq (by rfl) B.len PySem.boot_len (pa_cons (pv 1) pa_nil)) pe_int (nomark _))))) (pss_one (ps_expr (pe_bm PySem.F.plainAttrs_list PySem.F.slot_list_append PySem.F.type_list_append mt_append (pv 1) (pa_cons (pe_tup (pa_cons (pe_meth0 (pv 3) TL.cl CP.m CP.ok hr7 CP.b .nil pass0) (pa_cons (pe_callTy (call_listS rfl) (by rfl) B3.list (by decide +kernel) (pa_cons (pv 4) pa_nil)) (pa_cons (pe_callTy (call_listS rfl) (by rfl) B3.list (by decide +kernel) (pa_cons (pv 5) pa_nil)) pa_nil)))) pa_nil)))) (pss_one (ps_if (pt_cmpR op_eq (pv 6) pe_int (nomark _)) (pss_cons (ps_set (i := 7) scLRn.nd rfl (.inl rfl) (pe_callB (call_min2 rfl) (by rfl) B2.min (by decide +kernel) (pa_cons (pe_callB call_len_seq (by rfl) B.len PySem.boot_len (pa_cons (pv 5) pa_nil)) (pa_cons (pe_call TK.ok hr1 (by rfl) TK.g TK.kp TK.b .nil pass0 (pa_cons (pv 0) (pa_cons pe_int pa_nil))) pa_nil)))) (pss_cons (ps_expr (pe_meth (pv 3) TL.cl BA.m BA.ok hr2 BA.b .nil pass0 (pa_cons (pv 7) pa_nil))) (pss_one (ps_asg (pe_tup (pa_cons (pv 3) (pa_cons (pe_slice sl_list (pv 4) po_none (po_some (pe_op op_sub (pe_callB call_len_seq (by rfl) B.len PySem.boot_len (pa_cons (pv 4) pa_nil)) (pv 7)))) (pa_cons (pe_slice sl_list (pv 5) po_none (po_some (pe_op op_sub (pe_callB call_len_seq (by rfl) B.len PySem.boot_len (pa_cons (pv 5) pa_nil)) (pv 7)))) pa_nil)))) (pg_sub (pv 1) (pv 2) set_list))))) (pss_cons (ps_set (i := 8) scLRn.nd rfl (.inl rfl) (pe_call CO.ok hr2 (by rfl) CO.g CO.kp CO.b .nil pass0 (pa_cons (pe_ix ix_list (pv 4) (pe_un un_neg pe_int) (fun _ _ => rfl)) pa_nil))) (pss_cons (ps_set (i := 9) scLRn.nd rfl (.inl rfl) (pe_call DD.ok hr7 (by rfl) DD.g DD.kp DD.b .nil pass0 (pa_cons (pv 0) (pa_cons (pv 8) (pa_cons pe_int pa_nil))))) (pss_cons (ps_expr (pe_call LD.ok hr (by rfl) LD.g LD.kp LD.b .nil pass0 (pa_cons (pv 3) (pa_cons (pv 9) pa_nil)))) (pss_cons (ps_expr (pe_call MD.ok hr8 (by rfl) MD.g MD.kp MD.b .nil pass0 (pa_cons (pv 8) (pa_cons (pv 9) pa_nil)))) (pss_one (ps_asg (pe_tup (pa_cons (pv 3) (pa_cons (pe_op op_cat (pv 4) (pe_lst (pa_cons (pv 8) pa_nil))) (pa_cons (pe_op op_cat (pv 5) (pe_lst (pa_cons (pv 9) pa_nil))) pa_nil)))) (pg_sub (pv 1) (pv 2) set_list)))))))))))))), ?_⟩
    have lT : (Ts.map V.ref).length = es.length := by rw [List.length_map]; exact v.ln
    refine ⟨.ref p, rfl, .ref L, rfl, L, _, rfl, .inl (.inl (.inl v.hL)), ?_⟩
    rw [lT]
    refine ⟨p, _, rfl, v.hp, litM _ (by omega) (by omega), fun at0 H1 a0 a1 hp1 bt1 => ?_⟩
    have v1 := v.pot bt1 hp1
    obtain ⟨i, rfl⟩ : ∃ i : Nat, at0 = (i : Int) := ⟨at0.toNat, by omega⟩
    have il : i < es.length := by omega
    obtain ⟨t, e, ht, he, rt, ve⟩ := v1.get il
    have t1 := rest_same _ _ rt
    refine ⟨.ref L, rfl, .int i, rfl, L, _, (i : Int), .ref t, rfl, rfl, .inl (.inl v1.hL), atI_nat (by rw [List.getElem?_map, ht]; rfl), ?_⟩
    refine ⟨t, _, rfl, .inl (.inl t1), rfl, _, _, rfl, _, _, rfl, _, _, rfl, rfl, ?_⟩
    refine ⟨.ref p, rfl, p, 4, rfl, hp1, litM _ (by decide) (by decide), fun wy H2 wy0 wy1 hp2 bt2 => ?_⟩
    have v2 := v1.pot bt2 hp2
    have mv02 : Mvd Mu H Mu H2 := ⟨fun c o n t e => bt2 _ _ (fun z => n (z ▸ v.pM)) (bt1 _ _ (fun z => n (z ▸ v.pM)) e), fun _ h => .inl h, fun _ h => h⟩
    have fre : ∀ c, H2 c = none → H c = none := fun c n => by
      by_cases cp : c = p
      · obtain ⟨o, eo, _⟩ := hp2.mut
        rw [cp, eo] at n
        cases n
      · cases eo : H c with
        | none => rfl
        | some o =>
          have := bt2 _ _ cp (bt1 _ _ cp eo)
          rw [n] at this
          cases this
    obtain ⟨rt2, ve2⟩ := v2.row i t e ht he
    have em := List.mem_of_getElem? he
    have lk' := lk e em
    obtain ⟨Es0, E9, eE, lE0⟩ := last_of ve2.l1
    have hl2 := ve2.ld
    rw [eE] at hl2
    obtain ⟨dx, hx⟩ := hl2.hx
    have ktR : ∀ {H' : Hp}, (∀ c o, c ∉ Mu → (∀ ps, o ≠ .tbl ps) → H2 c = some o → H' c = some o) → KT (Rest H2 Mu) H' := fun h c o e t => h c o (rest_of e).1 (fun ps z => by rw [z] at t; exact t) (rest_of e).2
    refine ⟨_, rfl, rfl, _, rfl, ite2 (fun c1 => ⟨.ref L, rfl, L, _, rfl, .inl (.inl (.inl v2.hL)), _, _, rfl, rfl, _, rfl, ite2 (fun c2 => ?cA) (fun c2 => ?cR)⟩) (fun c1 => ?cS)⟩
    case' cA =>
      rw [lT] at c2
      have c5 : es.length < 5 := by
        have : ((es.length : Nat) : Int) < 5 := by simpa using c2
        omega
      refine ⟨.ref L, rfl, .inl ⟨rfl, _, .inl (.inl v2.hL)⟩, .ref e.x, rfl, e.x, dx, _, rfl, hx, lg_no (NoFL.mk' (by decide +kernel)), e.x, e.a, zs, Es0, _, E9, rfl, hl2, v.nz, fun x' a' H3 s3 nx nb nd hl3 => ?_⟩
      have v3 := v2.same s3
      obtain ⟨rt3, ve3⟩ := v3.row i t e ht he
      refine ⟨.ref e.ml, rfl, e.ml, _, rfl, .inl (.inl (.inl (rest_same _ _ ve3.hml))), fun r1 nr1 => ?_⟩
      have s4 := same_upd (o := .lst (e.ms.map fun m => V.ref m.m)) nr1
      have h41 : upd H3 r1 (.lst (e.ms.map fun m => V.ref m.m)) r1 = some (.lst (e.ms.map fun m => V.ref m.m)) := upd_same
      generalize upd H3 r1 (.lst (e.ms.map fun m => V.ref m.m)) = H4 at s4 h41
      refine ⟨.ref e.dl, rfl, e.dl, _, rfl, .inl (.inl (.inl (s4 _ _ (rest_same _ _ ve3.hdl)))), fun r2 nr2 => ?_⟩
      have s5 := same_upd (o := .lst e.xs) nr2
      have h52 : upd H4 r2 (.lst e.xs) r2 = some (.lst e.xs) := upd_same
      generalize upd H4 r2 (.lst e.xs) = H5 at s5 h52
      refine ⟨by show 3 ≤ sizeLine; decide, fun t' nt' => ?_⟩
      have s6 := same_upd (o := .tup [V.ref x', .ref r1, .ref r2]) nt'
      have h63 : upd H5 t' (.tup [V.ref x', .ref r1, .ref r2]) t' = some (.tup [V.ref x', .ref r1, .ref r2]) := upd_same
      generalize upd H5 t' (.tup [V.ref x', .ref r1, .ref r2]) = H6 at s6 h63
      have s36 := (s4.trans s5).trans s6
      have s26 := s3.trans s36
      have hL6 := s26 _ _ v2.hL
      refine ⟨L, _, .ref t', rfl, rfl, hL6, small1000 (by rw [lT]; omega), ?_⟩
      rw [show Ts.map V.ref ++ [V.ref t'] = (Ts ++ [t']).map V.ref by rw [List.map_append]; rfl]
      have b7 : But L H6 (upd H6 L (.lst ((Ts ++ [t']).map V.ref))) := But.at
      have hL7 : upd H6 L (.lst ((Ts ++ [t']).map V.ref)) L = some (.lst ((Ts ++ [t']).map V.ref)) := upd_same
      have tb7 := tabs_but (v2.tb.ext s26) b7 ⟨_, hL6, (by intro ps z; cases z), lst_code⟩
      generalize upd H6 L (.lst ((Ts ++ [t']).map V.ref)) = H7 at b7 hL7 tb7
      have neL : ∀ {c : Addr}, H2 c = none → c ≠ L := fun n z => by rw [z, v2.hL] at n; cases n
      have n1 := s3.free nr1
      have n2 := s3.free (s4.free nr2)
      have n3 := s3.free (s4.free (s5.free nt'))
      have n3c : ∀ {c : Addr}, c ∈ [x', a'.b, a'.d] → H3 c ≠ none := fun hc n => by
        obtain ⟨o, eo, _⟩ := ld_mut hl3 hc
        rw [n] at eo
        cases eo
      have nw : NewE K C CL H2 Mu H7 zs ⟨x', a', e.Es, e.lds, e.ms, r1, r2, e.xs⟩ t' :=
        { ld := by
            have := (hl3.same s36).butX b7 ⟨_, hL6⟩ (neL nb).symm (neL nd).symm
            rw [← eE] at this
            exact this
          ht := b7 _ _ (neL n3) h63
          nt := out_free v2.mu n3
          hml := b7 _ _ (neL n1) (s6 _ _ (s5 _ _ h41))
          nml := out_free v2.mu n1
          hdl := b7 _ _ (neL n2) (s6 _ _ h52)
          ndl := out_free v2.mu n2
          off := ⟨fun h => n3c h nr1, fun h => n3c h (s4.free nr2)⟩
          mds := fun j m E h1 h2 => .inl (ve2.mds j m E h1 h2)
          ddl := DtAll.keepT (ktR (H' := H7) fun c o nc _ eo => b7 _ _ (fun z => nc (z ▸ v2.LM)) (s26 _ _ eo)) _ (tup_lds _) ve2.ddl
          l1 := ve2.l1
          l2 := ve2.l2
          ok := ve2.ok
          gs := ve2.gs }
      obtain ⟨v7, m7⟩ := v2.app1 (fun c o _ cL _ eo => b7 _ _ cL (s26 _ _ eo)) (by obtain ⟨xp, yp, ep, r⟩ := hp2; exact ⟨xp, yp, b7 _ _ v2.pL (s26 _ _ ep), r⟩) hL7 tb7 (fun c hc => by
        simp only [List.mem_cons, List.not_mem_nil, or_false] at hc
        rcases hc with rfl | rfl | rfl
        · exact nx
        · exact nb
        · exact nd) nw
      refine q _ _ _ _ v7 (mv02.trans m7 fre) (by rw [List.length_append]; simp) (by rw [List.length_append]; simp; omega) (fun e2 h2 => ?_)
      rcases List.mem_append.mp h2 with h2 | h2
      · have := lk e2 h2
        omega
      · rw [List.mem_singleton.mp h2]
        exact Nat.le_succ_of_le lk'
    all_goals
      have lx : e.xs.length = e.lds.length := by
        have := ve2.ddl.len
        rw [List.length_map] at this
        exact this
      have lm : (e.ms.map fun m => V.ref m.m).length = e.lds.length + 1 := by rw [List.length_map, ve2.l2, ve2.l1]
      have neL : ∀ {c : Addr}, H2 c = none → c ≠ L := fun n z => by rw [z, v2.hL] at n; cases n
      have neM : ∀ {c : Addr}, H2 c = none → c ∉ Mu := fun n => out_free v2.mu n
      refine ⟨_, rfl, rfl, _, rfl, ite2 (fun c3 => ?_) (fun c3 => ?_)⟩
      · -- taken back
        refine ⟨.ref e.dl, rfl, e.dl, _, rfl, .inl (.inl (.inl (rest_same _ _ ve2.hdl))), .ref p, rfl, p, 4, rfl, hp2, litM _ (by decide) (by decide), fun u H3 u0 u1 hp3 bt3 => ⟨_, _, rfl, ?_⟩⟩
        obtain ⟨m, k, em', mk⟩ : ∃ m k : Nat, (if u < ((e.xs.length : Nat) : Int) then u else ((e.xs.length : Nat) : Int)) = (m : Int) ∧ m + k = e.lds.length := by
          rw [lx]
          split
          · exact ⟨u.toNat, e.lds.length - u.toNat, by omega, by omega⟩
          · exact ⟨e.lds.length, 0, rfl, by omega⟩
        rw [em']
        have v3 := v2.pot bt3 hp3
        obtain ⟨rt3, ve3⟩ := v3.row i t e ht he
        obtain ⟨dx3, hx3⟩ := ve3.hx
        refine ⟨.ref e.x, rfl, e.x, dx3, _, rfl, hx3, lg_no (NoFL.mk' (by decide +kernel)), .int m, rfl, e.x, e.a, zs, e.Es, _, m, k, rfl, ve3.ld, by rw [List.length_map]; exact mk, by rw [List.length_map]; exact ve3.l1, by rw [List.length_map]; omega, fun a' H4 b4 nb nd hl4 => ?_⟩
        have pe : ∀ {c : Addr}, H3 c = none → H2 c = none := fun {c} n => by
          by_cases cp : c = p
          · obtain ⟨o, eo, _⟩ := hp3.mut
            rw [cp, eo] at n
            cases n
          · cases eo : H2 c with
            | none => rfl
            | some o =>
              have := bt3 _ _ cp eo
              rw [n] at this
              cases this
        have xM := ve3.mx.1
        have mX : ∀ {c : Addr}, c ∉ Mu → c ≠ e.x := fun n z => n (z ▸ xM)
        have px : p ≠ e.x := (v3.offs em (c := e.x) (by simp)).1.symm
        have Lx : L ≠ e.x := (v3.offs em (c := e.x) (by simp)).2.symm
        have hL4 := b4 _ _ Lx v3.hL
        have hml4 := b4 _ _ (mX (rest_some ve3.hml)) (rest_same _ _ ve3.hml)
        have hdl4 := b4 _ _ (mX (rest_some ve3.hdl)) (rest_same _ _ ve3.hdl)
        have tb4 : Tabs T H4 := tabs_but v3.tb b4 ⟨_, hx3, (by intro ps z; cases z), by intro c q z; cases z⟩
        refine ⟨.ref e.x, rfl, .ref e.ml, rfl, .ref e.ml, rfl, e.ml, _, rfl, .inl (.inl (.inl hml4)), .int m, rfl, _, _, rfl, rfl, ((k + 1 : Nat) : Int), congrArg V.int (by rw [lm]; omega), e.ml, _, rfl, .inl (.inl hml4), fun r1 nr1 => ?_⟩
        rw [cut_take, ← List.map_take]
        have s5 := same_upd (o := .lst ((e.ms.take (k + 1)).map fun m => V.ref m.m)) nr1
        have h51 : upd H4 r1 (.lst ((e.ms.take (k + 1)).map fun m => V.ref m.m)) r1 = some (.lst ((e.ms.take (k + 1)).map fun m => V.ref m.m)) := upd_same
        generalize upd H4 r1 (.lst ((e.ms.take (k + 1)).map fun m => V.ref m.m)) = H5 at s5 h51
        have hdl5 := s5 _ _ hdl4
        refine ⟨.ref e.dl, rfl, .ref e.dl, rfl, e.dl, _, rfl, .inl (.inl (.inl hdl5)), .int m, rfl, _, _, rfl, rfl, ((k : Nat) : Int), congrArg V.int (by omega), e.dl, _, rfl, .inl (.inl hdl5), fun r2 nr2 => ?_⟩
        rw [cut_take]
        have s6 := same_upd (o := .lst (e.xs.take k)) nr2
        have h62 : upd H5 r2 (.lst (e.xs.take k)) r2 = some (.lst (e.xs.take k)) := upd_same
        generalize upd H5 r2 (.lst (e.xs.take k)) = H6 at s6 h62
        refine ⟨by show 3 ≤ sizeLine; decide, fun t' nt' => ?_⟩
        have s7 := same_upd (o := .tup [V.ref e.x, .ref r1, .ref r2]) nt'
        have h73 : upd H6 t' (.tup [V.ref e.x, .ref r1, .ref r2]) t' = some (.tup [V.ref e.x, .ref r1, .ref r2]) := upd_same
        generalize upd H6 t' (.tup [V.ref e.x, .ref r1, .ref r2]) = H7 at s7 h73
        have s47 := (s5.trans s6).trans s7
        have hL7 := s47 _ _ hL4
        refine ⟨.ref L, rfl, .int i, rfl, L, _, (i : Int), i, rfl, rfl, hL7, ixN_at (by rw [lT]; exact il), ?_⟩
        rw [show (Ts.map V.ref).set i (.ref t') = (Ts.set i t').map V.ref from List.map_set.symm]
        have b8 : But L H7 (upd H7 L (.lst ((Ts.set i t').map V.ref))) := But.at
        have hL8 : upd H7 L (.lst ((Ts.set i t').map V.ref)) L = some (.lst ((Ts.set i t').map V.ref)) := upd_same
        have tb8 := tabs_but (tb4.ext s47) b8 ⟨_, hL7, (by intro ps z; cases z), lst_code⟩
        generalize upd H7 L (.lst ((Ts.set i t').map V.ref)) = H8 at b8 hL8 tb8
        have go : ∀ c o, c ≠ p → c ≠ L → c ≠ e.x → H2 c = some o → H8 c = some o := fun c o n1 n2 n3 eo => b8 _ _ n2 (s47 _ _ (b4 _ _ n3 (bt3 _ _ n1 eo)))
        have f4 : ∀ {c : Addr}, c ≠ e.x → H4 c = none → H2 c = none := fun {c} cx n => by
          refine pe ?_
          cases eo : H3 c with
          | none => rfl
          | some o =>
            have := b4 _ _ cx eo
            rw [n] at this
            cases this
        have hx4 : H4 e.x ≠ none := fun z => by
          obtain ⟨_, h⟩ := hl4.hx
          rw [z] at h
          cases h
        have x4 : ∀ {c : Addr}, H4 c = none → c ≠ e.x := fun n z => hx4 (z ▸ n)
        have n4 : ∀ {c : Addr}, H4 c = none → H2 c = none := fun n => f4 (x4 n) n
        have n1 := n4 nr1
        have n2 := n4 (s5.free nr2)
        have n3 := n4 (s5.free (s6.free nt'))
        have n4c : ∀ {c : Addr}, c ∈ [e.x, a'.b, a'.d] → H4 c ≠ none := fun hc n => by
          obtain ⟨o, eo, _⟩ := ld_mut hl4 hc
          rw [n] at eo
          cases eo
        have hl8 := (hl4.same s47).butX b8 ⟨_, hL7⟩ (neL (pe nb)).symm (neL (pe nd)).symm
        have nw : NewE K C CL H2 Mu H8 zs ⟨e.x, a', e.Es.take (k + 1), e.lds.take k, e.ms.take (k + 1), r1, r2, e.xs.take k⟩ t' :=
          { ld := by
              rw [← List.map_take] at hl8
              exact hl8
            ht := b8 _ _ (neL n3) h73
            nt := neM n3
            hml := b8 _ _ (neL n1) (s7 _ _ (s6 _ _ h51))
            nml := neM n1
            hdl := b8 _ _ (neL n2) (s7 _ _ h62)
            ndl := neM n2
            off := ⟨fun h => n4c h nr1, fun h => n4c h (s5.free nr2)⟩
            mds := fun j m E h1 h2 => by
              have jk : j < k + 1 := by
                have := (List.getElem?_eq_some_iff.mp h1).1
                rw [List.length_take] at this
                omega
              rw [List.getElem?_take_of_lt jk] at h1 h2
              exact .inl (ve2.mds j m E h1 h2)
            ddl := by
              show DtAll K H8 (e.xs.take k) ((e.lds.take k).map ldD)
              rw [List.map_take]
              exact DtAll.take k (DtAll.keepT (ktR (H' := H8) fun c o nc _ eo => go c o (fun z => nc (z ▸ v2.pM)) (fun z => nc (z ▸ v2.LM)) (mX nc) eo) _ (tup_lds _) ve2.ddl)
            l1 := by
              have := ve2.l1
              show (e.Es.take (k + 1)).length = (e.lds.take k).length + 1
              rw [List.length_take, List.length_take]
              omega
            l2 := by
              have := ve2.l2
              show (e.ms.take (k + 1)).length = (e.Es.take (k + 1)).length
              rw [List.length_take, List.length_take, this]
            ok := fun l hl => ve2.ok l (List.mem_of_mem_take hl)
            gs := fun j E h => by
              have jk : j < k + 1 := by
                have := (List.getElem?_eq_some_iff.mp h).1
                rw [List.length_take] at this
                omega
              rw [List.getElem?_take_of_lt jk] at h
              exact ve2.gs j E h }
        obtain ⟨v8, m8⟩ := v2.put1 ht he (fun c o cp cL ce _ eo => go c o cp cL (fun z => ce (by rw [z]; simp)) eo) (by obtain ⟨xp, yp, ep, r⟩ := hp3; exact ⟨xp, yp, b8 _ _ v2.pL (s47 _ _ (b4 _ _ px ep)), r⟩) hL8 tb8 (fun c hc => by
          simp only [List.mem_cons, List.not_mem_nil, or_false] at hc
          rcases hc with rfl | hc
          · exact ld_mut hl8 (by simp)
          · have hc' : c ∈ cellsE e := by
              simp only [List.mem_cons, List.not_mem_nil, or_false]
              exact .inr hc
            have off := v2.offs em hc'
            obtain ⟨o, eo, mo⟩ := v2.mu c (v2.cellM em hc')
            refine ⟨o, go c o off.1 off.2 (fun z => ?_) eo, mo⟩
            obtain ⟨_, _, _, a1, a2⟩ := ldA_b ve2.ld
            rcases hc with rfl | rfl
            · exact a1 z.symm
            · exact a2 z.symm) (fun c hc => by
          simp only [List.mem_cons, List.not_mem_nil, or_false] at hc
          rcases hc with rfl | rfl | rfl
          · exact .inl (by simp)
          · exact .inr (pe nb)
          · exact .inr (pe nd)) nw
        refine q _ _ _ _ v8 (mv02.trans m8 fre) (by rw [List.length_set]; exact ln1) (by rw [List.length_set]; exact ln5) (fun e2 h2 => ?_)
        rcases List.mem_or_eq_of_mem_set h2 with h2 | rfl
        · exact Nat.le_succ_of_le (lk e2 h2)
        · show (e.lds.take k).length ≤ _
          rw [List.length_take]
          omega
      · -- a deed
        obtain ⟨ms0, m9, eM, lM0⟩ := last_of (l := e.ms) (by rw [ve2.l2, ve2.l1])
        have e9 : e.Es[Es0.length]? = some E9 := by rw [eE, List.getElem?_append_right (Nat.le_refl _), Nat.sub_self]; rfl
        have em9 : e.ms[Es0.length]? = some m9 := by rw [eM, List.getElem?_append_right (by omega), show Es0.length - ms0.length = 0 by omega]; rfl
        obtain ⟨g, gb, bd⟩ := ve2.gs _ _ e9
        have hM9 := model_same (ve2.mds _ _ _ em9 e9) rest_same
        have hml2 := rest_same _ _ ve2.hml
        have hml9 := hml2
        rw [eM, List.map_append] at hml9
        refine ⟨.ref e.ml, rfl, _, rfl, e.ml, _, -1, .ref m9.m, rfl, rfl, .inl (.inl hml9), atI_last _ _, m9, E9, zs, rfl, hM9, v.nz, fun c H3 s3 nc hM3 => ?_⟩
        have ncp : ¬ c.Has p := fun h => by
          obtain ⟨o, eo, _⟩ := hp2.mut
          rw [nc p h] at eo
          cases eo
        refine ⟨.ref p, rfl, .ref c.m, rfl, p, c, E9, zs, 0, rfl, .inl rfl, hp2.same s3, hM3, g, gb, ncp, fun v9 H4 ld hp4 bt4 hd4 => ?_⟩
        have v4 := (v2.same s3).pot bt4 hp4
        have hM4 := model_but hM3 bt4 (hp2.same s3) ncp
        obtain ⟨rt4, ve4⟩ := v4.row i t e ht he
        have hl4 := ve4.ld
        rw [eE] at hl4
        refine ⟨.ref e.x, rfl, v9, rfl, e.x, e.a, zs, Es0, e.lds.map ldD, E9, v9, ld, rfl, hl4, g, gb, by have h1 := bd.my; show (E9.notes.map List.length).sum < 60; omega, hd4, v4.tb, by omega, by rw [List.length_map]; omega, fun E' H5 b5 tb5 hl5 af => ?_⟩
        obtain ⟨⟨xb, eab⟩, ⟨xd, ead⟩, _, nxb, nxd⟩ := ldA_b hl4
        have kt45 : KT H4 H5 := fun q o eo tp => b5 q o (fun z => by rw [z, eab] at eo; cases eo; exact tp) (fun z => by rw [z, ead] at eo; cases eo; exact tp) (fun ps z => by rw [z] at tp; exact tp) eo
        have bM : e.a.b ∈ Mu := ve2.mx.2.1
        have dM : e.a.d ∈ Mu := ve2.mx.2.2
        have mu2 : MuOk H4 [e.a.b, e.a.d] := fun q hq => ld_mut hl4 (List.mem_cons_of_mem _ hq)
        have ncM : ∀ q, c.Has q → q ∉ Mu := fun q h => neM (nc q h)
        have hM5 : ModelAt K H5 zs c E9 := model_ext (model_rest hM4 (fun q hq hm => by
          simp only [List.mem_cons, List.not_mem_nil, or_false] at hm
          rcases hm with rfl | rfl
          · exact ncM _ hq bM
          · exact ncM _ hq dM) mu2) (fun q o eo tt => b5 q o (fun z => (rest_of eo).1 (by rw [z]; simp)) (fun z => (rest_of eo).1 (by rw [z]; simp)) tt (rest_of eo).2)
        have hd5 := hd4.keep kt45
        refine ⟨.ref c.m, rfl, v9, rfl, c, E9, zs, v9, ld, rfl, hM5, g, gb, hd5, fun E'' H6 b6 hM6 af2 => ?_⟩
        obtain rfl := after_one af af2
        have kp56 : Kp H5 H6 := fun q o eo f => b6 q o (fun hc => by
          rcases hM5.cellK hc with ⟨_, em⟩ | ⟨_, em⟩ <;> rw [eo] at em <;> cases em <;> exact f) eo
        have hl6 := hl5.keepM kp56 (fun q hq o eo => b6 q o (fun hc => by
          simp only [List.mem_cons, List.not_mem_nil, or_false] at hq
          rcases hq with rfl | rfl
          · exact ncM _ hc bM
          · exact ncM _ hc dM) eo)
        have tb6 : Tabs T H6 := tabs_kp tb5 kp56
        have go26 : ∀ q o, q ≠ p → q ≠ e.a.b → q ≠ e.a.d → (∀ ps, o ≠ .tbl ps) → H2 q = some o → H6 q = some o := fun q o n1 n2 n3 tt eo =>
          b6 _ _ (fun hc => by have := nc q hc; rw [eo] at this; cases this) (b5 _ _ n2 n3 tt (bt4 _ _ n1 (s3 _ _ eo)))
        have nl : ∀ {xs : List V} ps, HO.lst xs ≠ .tbl ps := by
          intro xs ps z
          cases z
        have out : ∀ {q : Addr} {o : HO}, q ∉ Mu → (∀ ps, o ≠ .tbl ps) → H2 q = some o → H6 q = some o := fun n tt eo => go26 _ _ (fun z => n (z ▸ v2.pM)) (fun z => n (z ▸ bM)) (fun z => n (z ▸ dM)) tt eo
        have hml6 := out (rest_some ve2.hml) nl hml2
        have hdl6 := out (rest_some ve2.hdl) nl (rest_same _ _ ve2.hdl)
        have pL := v2.pL
        have hL6 := go26 _ _ pL.symm (v2.offs em (c := e.a.b) (by simp)).2.symm (v2.offs em (c := e.a.d) (by simp)).2.symm nl v2.hL
        have hp6 : Pot H6 p := by
          obtain ⟨xp, yp, ep, r⟩ := hp4
          exact ⟨xp, yp, b6 _ _ ncp (b5 _ _ (v2.offs em (c := e.a.b) (by simp)).1.symm (v2.offs em (c := e.a.d) (by simp)).1.symm nl ep), r⟩
        -- the lists
        refine ⟨.ref e.x, rfl, .ref e.ml, rfl, .ref c.m, rfl, by show 1 ≤ sizeLine; decide, fun l1 nl1 => ?_⟩
        have s7 := same_upd (o := .lst [V.ref c.m]) nl1
        have h71 : upd H6 l1 (.lst [V.ref c.m]) l1 = some (.lst [V.ref c.m]) := upd_same
        generalize upd H6 l1 (.lst [V.ref c.m]) = H7 at s7 h71
        refine ⟨e.ml, l1, _, _, rfl, rfl, s7 _ _ hml6, h71, by rw [lm]; exact small_line (by show _ + 1 ≤ 1000; omega), fun r1 nr1 => ?_⟩
        rw [show ((e.ms.map fun m => V.ref m.m) ++ [V.ref c.m]) = ((e.ms ++ [c]).map fun m => V.ref m.m) by rw [List.map_append]; rfl]
        have s8 := same_upd (o := .lst ((e.ms ++ [c]).map fun m => V.ref m.m)) nr1
        have h81 : upd H7 r1 (.lst ((e.ms ++ [c]).map fun m => V.ref m.m)) r1 = some (.lst ((e.ms ++ [c]).map fun m => V.ref m.m)) := upd_same
        generalize upd H7 r1 (.lst ((e.ms ++ [c]).map fun m => V.ref m.m)) = H8 at s8 h81
        refine ⟨.ref e.dl, rfl, v9, rfl, by show 1 ≤ sizeLine; decide, fun l2 nl2 => ?_⟩
        have s9 := same_upd (o := .lst [v9]) nl2
        have h92 : upd H8 l2 (.lst [v9]) l2 = some (.lst [v9]) := upd_same
        generalize upd H8 l2 (.lst [v9]) = H9 at s9 h92
        refine ⟨e.dl, l2, _, _, rfl, rfl, s9 _ _ (s8 _ _ (s7 _ _ hdl6)), h92, by rw [lx]; exact small_line (by show _ + 1 ≤ 1000; omega), fun r2 nr2 => ?_⟩
        have sa := same_upd (o := .lst (e.xs ++ [v9])) nr2
        have ha2 : upd H9 r2 (.lst (e.xs ++ [v9])) r2 = some (.lst (e.xs ++ [v9])) := upd_same
        generalize upd H9 r2 (.lst (e.xs ++ [v9])) = Ha at sa ha2
        refine ⟨by show 3 ≤ sizeLine; decide, fun t' nt' => ?_⟩
        have sb := same_upd (o := .tup [V.ref e.x, .ref r1, .ref r2]) nt'
        have hb3 : upd Ha t' (.tup [V.ref e.x, .ref r1, .ref r2]) t' = some (.tup [V.ref e.x, .ref r1, .ref r2]) := upd_same
        generalize upd Ha t' (.tup [V.ref e.x, .ref r1, .ref r2]) = Hb at sb hb3
        have s6b := (((s7.trans s8).trans s9).trans sa).trans sb
        have hLb := s6b _ _ hL6
        refine ⟨.ref L, rfl, .int i, rfl, L, _, (i : Int), i, rfl, rfl, hLb, ixN_at (by rw [lT]; exact il), ?_⟩
        rw [show (Ts.map V.ref).set i (.ref t') = (Ts.set i t').map V.ref from List.map_set.symm]
        have bc : But L Hb (upd Hb L (.lst ((Ts.set i t').map V.ref))) := But.at
        have hLc : upd Hb L (.lst ((Ts.set i t').map V.ref)) L = some (.lst ((Ts.set i t').map V.ref)) := upd_same
        have tbc := tabs_but (tb6.ext s6b) bc ⟨_, hLb, (by intro ps z; cases z), lst_code⟩
        generalize upd Hb L (.lst ((Ts.set i t').map V.ref)) = Hc at bc hLc tbc
        have go : ∀ q o, q ≠ p → q ≠ L → q ≠ e.a.b → q ≠ e.a.d → (∀ ps, o ≠ .tbl ps) → H2 q = some o → Hc q = some o := fun q o n1 n2 n3 n4 tt eo => bc _ _ n2 (s6b _ _ (go26 _ _ n1 n3 n4 tt eo))
        have mu6 : ∀ q ∈ Mu, ∃ o, H6 q = some o := fun q hq => by
          by_cases qp : q = p
          · obtain ⟨o, eo, _⟩ := hp6.mut
            exact ⟨o, qp ▸ eo⟩
          by_cases qb : q = e.a.b
          · obtain ⟨o, eo, _⟩ := ld_mut hl6 (c := e.a.b) (by simp)
            exact ⟨o, qb ▸ eo⟩
          by_cases qd : q = e.a.d
          · obtain ⟨o, eo, _⟩ := ld_mut hl6 (c := e.a.d) (by simp)
            exact ⟨o, qd ▸ eo⟩
          obtain ⟨o, eo, mo⟩ := v2.mu q hq
          exact ⟨o, go26 _ _ qp qb qd (mut_nt mo) eo⟩
        have n6 : ∀ {q : Addr}, H6 q = none → q ∉ Mu := fun n hq => by
          obtain ⟨o, eo⟩ := mu6 _ hq
          rw [n] at eo
          cases eo
        have f7 := s7.free nr1
        have f9 := s7.free (s8.free (s9.free nr2))
        have fb := s7.free (s8.free (s9.free (sa.free nt')))
        have nL6 : ∀ {q : Addr}, H6 q = none → q ≠ L := fun n z => by rw [z, hL6] at n; cases n
        have n6c : ∀ {q : Addr}, q ∈ cellsE e → q ∈ Mu := fun hq => v2.cellM em hq
        have Lab : L ≠ e.a.b := (v2.offs em (c := e.a.b) (by simp)).2.symm
        have Lad : L ≠ e.a.d := (v2.offs em (c := e.a.d) (by simp)).2.symm
        have hlc := (hl6.same s6b).butX bc ⟨_, hLb⟩ Lab Lad
        have hMc : ModelAt K Hc zs c E' := (model_same hM6 s6b).keep (fun q o hq eo => bc q o (fun z => ncM _ hq (z ▸ v2.LM)) eo) (fun q o eo tp => bc q o (fun z => by rw [z, hLb] at eo; cases eo; exact tp) eo)
        have ok' := hd4.ok
        have aft := after_ok g gb bd (by omega) ok' af
        have dnew : DtAll K Hc (e.xs ++ [v9]) ((e.lds ++ [ld]).map ldD) := by
          rw [List.map_append]
          refine (DtAll.keepT (ktR (H' := Hc) fun q o nc _ eo => go q o (fun z => nc (z ▸ v2.pM)) (fun z => nc (z ▸ v2.LM)) (fun z => nc (z ▸ bM)) (fun z => nc (z ▸ dM)) (by assumption) eo) _ (tup_lds _) ve2.ddl).append (.cons ?_ .nil)
          have dv := hd5.dt
          exact Dt.keepT (((kp56.kt).trans (kt_same s6b)).trans (fun q o eo tp => bc q o (fun z => by rw [z, hLb] at eo; cases eo; exact tp) eo)) _ (tup_ld ld) dv
        have nw : NewE K C CL H2 Mu Hc zs ⟨e.x, e.a, e.Es ++ [E'], e.lds ++ [ld], e.ms ++ [c], r1, r2, e.xs ++ [v9]⟩ t' :=
          { ld := by
              have z := hlc
              rw [← eE, show List.map ldD e.lds ++ [ldD ld] = (e.lds ++ [ld]).map ldD by rw [List.map_append]; rfl] at z
              exact z
            ht := bc _ _ (nL6 fb) hb3
            nt := n6 fb
            hml := bc _ _ (nL6 f7) (sb _ _ (sa _ _ (s9 _ _ h81)))
            nml := n6 f7
            hdl := bc _ _ (nL6 f9) (sb _ _ ha2)
            ndl := n6 f9
            off := ⟨fun h => n6 f7 (n6c h), fun h => n6 f9 (n6c h)⟩
            mds := fun j m E h1 h2 => by
              have h1 : (e.ms ++ [c])[j]? = some m := h1
              have h2 : (e.Es ++ [E'])[j]? = some E := h2
              by_cases jl : j < e.ms.length
              · rw [List.getElem?_append_left jl] at h1
                rw [List.getElem?_append_left (by rw [← ve2.l2]; exact jl)] at h2
                exact .inl (ve2.mds j m E h1 h2)
              · have je : j = e.ms.length := by
                  have := (List.getElem?_eq_some_iff.mp h1).1
                  rw [List.length_append] at this
                  have : j < e.ms.length + 1 := this
                  omega
                subst je
                rw [List.getElem?_append_right (Nat.le_refl _), Nat.sub_self] at h1
                rw [ve2.l2, List.getElem?_append_right (Nat.le_refl _), Nat.sub_self] at h2
                cases h1
                cases h2
                exact .inr ⟨hMc, fun q hq => ⟨ncM q hq, fun h => ncM q hq (n6c h)⟩⟩
            ddl := dnew
            l1 := by
              have := ve2.l1
              show (e.Es ++ [E']).length = (e.lds ++ [ld]).length + 1
              rw [List.length_append, List.length_append, this]
              rfl
            l2 := by
              have := ve2.l2
              show (e.ms ++ [c]).length = (e.Es ++ [E']).length
              rw [List.length_append, List.length_append, this]
              rfl
            ok := fun l hl => (List.mem_append.mp hl).elim (ve2.ok l) (fun h => by rw [List.mem_singleton.mp h]; exact ok')
            gs := fun j E h => by
              have h : (e.Es ++ [E'])[j]? = some E := h
              by_cases jl : j < e.Es.length
              · rw [List.getElem?_append_left jl] at h
                exact ve2.gs j E h
              · have je : j = e.Es.length := by
                  have := (List.getElem?_eq_some_iff.mp h).1
                  rw [List.length_append] at this
                  have : j < e.Es.length + 1 := this
                  omega
                subst je
                rw [List.getElem?_append_right (Nat.le_refl _), Nat.sub_self] at h
                cases h
                rw [ve2.l1]
                rw [lE0] at aft
                exact aft }
        obtain ⟨vc, mc⟩ := v2.put1 (e' := ⟨e.x, e.a, e.Es ++ [E'], e.lds ++ [ld], e.ms ++ [c], r1, r2, e.xs ++ [v9]⟩) ht he (fun q o cp cL ce tt eo => go q o cp cL (fun z => ce (by rw [z]; simp)) (fun z => ce (by rw [z]; simp)) tt eo) (by obtain ⟨xp, yp, ep, r⟩ := hp6; exact ⟨xp, yp, bc _ _ pL (s6b _ _ ep), r⟩) hLc tbc (fun q hq => ld_mut hlc hq) (fun q hq => .inl hq) nw
        refine q _ _ _ _ vc (mv02.trans mc fre) (by rw [List.length_set]; exact ln1) (by rw [List.length_set]; exact ln5) (fun e2 h2 => ?_)
        rcases List.mem_or_eq_of_mem_set h2 with h2 | h2
        · exact Nat.le_succ_of_le (lk e2 h2)
        · rw [h2]
          show (e.lds ++ [ld]).length ≤ _
          rw [List.length_append]
          show e.lds.length + 1 ≤ _
          omega
end
end Rc

namespace Rc
open PySem PySem.Spec PyProof.Rows L2 RZ LamX
section
variable {P : Program} {w : World} {K : PySem.W.Frag} {mg : Str → Option Value} {base : Heap}
/-! ### law -/
abbrev sLaw : Stmt := topS 80
abbrev nLaw : List Str := ["_law_script", "_law_k", "_law_pot_here", "_law_names_here", "_law_all_of_them", "_law_turn", "_law_ledger", "_law_models", "_law_deeds_here"]
theorem scLaw : FnScope nLaw ["_law_script"] (defScope sLaw) := ⟨rfl, rfl, rfl, by decide +kernel, rfl, by decide +kernel, by decide +kernel⟩
set_option maxHeartbeats 2000000 in
theorem ok_law {f fP fT f1 f2 f3 f4 f5 fL C CL : Addr} {fd fdP fdT fd1 fd2 fd3 fd4 fd5 fdL : FuncData} {T : List (Addr × Str)} (F : Fun K "law" "law" sLaw f fd) (B : Blt mg) (B2 : Blt2 mg) (TL : ClsL K CL) (LP : Has P w K mg base 3 "_law_pot" ["_law_script", "_law_k"] (spPot K) fP fdP) (TK : HasTake P w K mg base fT fdT)
    (LN : Has P w K mg base 3 "_law_names" ["_law_pot_here", "_law_many"] spLNms f1 fd1) (MD : Has P w K mg base 1 "_law_model" ["_law_names_here"] (spLMd K) f2 fd2) (RN : Has P w K mg base 13 "_law_round" ["_law_pot_here", "_law_all_of_them"] (spLRn K C CL T) f3 fd3) (LG : HasM P w K mg base CL 1 "log" ["self"] (spLgLog K C CL) f4 fd4)
    (SD : HasG P w K mg base 7 "_law_stands" nLSd (spLSd K C CL) f5 fd5) (ML : Mk K CL fL) (gL : mg "Ledger" = some (.ref CL)) (GL : FnOk P w K mg base CX0 5 fL fdL ["self", "persons"] (spLgI K C CL)) (bL : Binds K fdL ["self", "persons"] []) : FnG P w K mg base CX0 14 f fd ["_law_script"] (spLawT K T) := by
  refine okG0 F scLaw (fun vs H Q E h => ?_) (fun cdv A outer s H vs Q E hr hg h => ?_)
  · obtain ⟨a, d, rfl, _⟩ := h
    rfl
  · obtain ⟨a0, ns, rfl, hS, hlen, tT, q⟩ := h
    have hr1 := hr.mono (show 1 ≤ 13 by decide)
    have hr3 := hr.mono (show 3 ≤ 13 by decide)
    have hr5 := hr.mono (show 6 ≤ 13 by decide)
    have hr7 := hr.mono (show 7 ≤ 13 by decide)
    refine ⟨_, (pss_cons (ps_for PassesOwn.never rfl (pi_range1 (by rfl) B2.range (pa_cons (pe_callB (call_max2 rfl) (by rfl) B2.max (by decide +kernel) (pa_cons pe_int (pa_cons (pe_callB (call_min2 rfl) (by rfl) B2.min (by decide +kernel) (pa_cons (pe_callB call_len_seq (by rfl) B.len PySem.boot_len (pa_cons (pv 0) pa_nil)) (pa_cons pe_int pa_nil))) pa_nil))) pa_nil)) (pg_name (i := 1) scLaw.nd rfl (.inl rfl)) (pss_cons (ps_set (i := 2) scLaw.nd rfl (.inl rfl) (pe_call LP.ok hr3 (by rfl) LP.g LP.kp LP.b .nil pass0 (pa_cons (pv 0) (pa_cons (pv 1) pa_nil)))) (pss_cons (ps_set (i := 3) scLaw.nd rfl (.inl rfl) (pe_call LN.ok hr3 (by rfl) LN.g LN.kp LN.b .nil pass0 (pa_cons (pv 2) (pa_cons (pe_op op_add pe_int (pe_call TK.ok hr1 (by rfl) TK.g TK.kp TK.b .nil pass0 (pa_cons (pv 2) (pa_cons pe_int pa_nil)))) pa_nil)))) (pss_cons (ps_set (i := 4) scLaw.nd rfl (.inl rfl) (pe_lst (pa_cons (pe_tup (pa_cons (pe_make ML GL hr5 (by rfl) gL bL .nil pass0 (pa_cons (pv 3) pa_nil)) (pa_cons (pe_lst (pa_cons (pe_call MD.ok hr1 (by rfl) MD.g MD.kp MD.b .nil pass0 (pa_cons (pv 3) pa_nil)) pa_nil)) (pa_cons (pe_lst pa_nil) pa_nil)))) pa_nil))) (pss_one (ps_for PassesOwn.never rfl (pi_range1 (by rfl) B2.range (pa_cons (pe_call TK.ok hr1 (by rfl) TK.g TK.kp TK.b .nil pass0 (pa_cons (pv 2) (pa_cons pe_int pa_nil))) pa_nil)) (pg_name (i := 5) scLaw.nd rfl (.inl rfl)) (pss_cons (ps_expr (pe_call RN.ok hr (by rfl) RN.g RN.kp RN.b .nil pass0 (pa_cons (pv 2) (pa_cons (pv 4) pa_nil)))) (pss_one (ps_for PassesOwn.never rfl (pi_list (pv 4)) (pg_tup rfl (pgs_cons (pg_name (i := 6) scLaw.nd rfl (.inl rfl)) (pgs_cons (pg_name (i := 7) scLaw.nd rfl (.inl rfl)) (pgs_cons (pg_name (i := 8) scLaw.nd rfl (.inl rfl)) pgs_nil)))) (pss_cons (ps_expr (pe_bm PySem.F.plainAttrs_list PySem.F.slot_list_append PySem.F.type_list_append mt_append (pe_meth0 (pv 6) TL.cl LG.m LG.ok hr1 LG.b .nil pass0) (pa_cons pe_str pa_nil))) (pss_one (ps_if (pt_not (pt_val (pe_callG SD.ok hr7 hg (by rfl) SD.g SD.kp SD.b .nil pass0 (pa_cons (pv 6) (pa_cons (pe_ix ix_list (pv 7) (pe_un un_neg pe_int) (fun _ _ => rfl)) (pa_cons (pv 8) pa_nil)))))) (pss_one (ps_ret pe_bl)) pss_nil)))))))))))) (pss_one (ps_ret pe_bl))), ?_⟩
    refine ⟨.ref a0, rfl, a0, _, rfl, .inl hS, _, _, rfl, _, _, rfl, ?_⟩
    have nb : ∃ n : Nat, n ≤ 63 ∧ (if (if (4 : Int) < ((ns.map V.int).length : Int) then (4 : Int) else ((ns.map V.int).length : Int)) > 1 then (if (4 : Int) < ((ns.map V.int).length : Int) then (4 : Int) else ((ns.map V.int).length : Int)) else 1) = (n : Int) := by
      rw [List.length_map]
      refine ⟨(if (if (4 : Int) < (ns.length : Int) then (4 : Int) else (ns.length : Int)) > 1 then (if (4 : Int) < (ns.length : Int) then (4 : Int) else (ns.length : Int)) else 1).toNat, ?_, ?_⟩ <;> (split <;> split <;> omega)
    obtain ⟨n, hn, en⟩ := nb
    refine ⟨_, congrArg (fun z => [V.int z]) en, by omega, by omega, ?_⟩
    refine for_it walk_range (fun i σ H' => ∃ y1 y2 y3 y4 y5 y6 y7 y8, σ = [some (.ref a0), y1, y2, y3, y4, y5, y6, y7, y8] ∧ Wd T H H') ⟨_, _, _, _, _, _, _, _, rfl, ExtN.refl _, tT⟩ (fun _ _ _ _ _ => trivial) (fun i x σ H1' H1 hi hP hY => ?_) (fun σ H1 hP => q _)
    obtain ⟨rfl, rfl⟩ := hY
    obtain ⟨y1, y2, y3, y4, y5, y6, y7, y8, rfl, w1⟩ := hP
    have hi' : i < n := by simpa using hi
    refine ⟨.ref a0, rfl, .int (0 + i), rfl, a0, ns, _, rfl, sql_ext hS w1.e, by omega, by omega, fun p o np hp => ?_⟩
    have nwp := w1.nw np
    have wG1 := w1.same (same_upd (o := o) np)
    generalize upd H1 p o = G1 at hp wG1
    refine ⟨.ref p, rfl, .ref p, rfl, p, 5, rfl, hp, litM _ (by decide) (by decide), fun t1 G2 t10 t11 hp2 bt2 => ⟨1, t1, rfl, rfl, ?_⟩⟩
    have w2 := wG1.but bt2 hp nwp
    refine ⟨p, (1 + t1).toNat, congrArg (fun z => [V.ref p, V.int z]) (by rw [Int.toNat_of_nonneg (by omega)]), hp2, by omega, fun nl zs G3 nnl nlp hnl lzs znd znm hp3 bt3 => ?_⟩
    have w3 := w2.but bt3 hp2 nwp
    have nz : NamesOk zs := ⟨by omega, by omega, znd, znm⟩
    -- the ledger
    refine ⟨.ref nl, rfl, fun y dy ny ndy nyy => ?_⟩
    have sy : Same G3 (upd (upd G3 dy (.own y)) y (.ins CL dy [])) := fun c o e => by
      rw [upd_ne (ne_of_none e ny), upd_ne (ne_of_none e ndy)]
      exact e
    refine ⟨y, dy, nl, zs, rfl, upd_same, sy _ _ hnl, nz, fun la G4 b4 na1 na2 hl4 => ⟨rfl, ?_⟩⟩
    have s34 : Same G3 G4 := fun c o e => b4 c o (ne_of_none e ny) (sy c o e)
    have nb3 : G3 la.b = none := sy.free na1
    have nd3 : G3 la.d = none := sy.free na2
    generalize upd (upd G3 dy (.own y)) y (.ins CL dy []) = G3' at *
    refine ⟨.ref nl, rfl, nl, zs, rfl, s34 _ _ hnl, nz.nd, by have := nz.n1; omega, fun m G5 s45 nm hM5 => ⟨by show 1 ≤ sizeLine; decide, fun ml nml => ?_⟩⟩
    have s56 := same_upd (o := .lst [V.ref m.m]) nml
    have hml6 : upd G5 ml (.lst [V.ref m.m]) ml = some (.lst [V.ref m.m]) := upd_same
    generalize upd G5 ml (.lst [V.ref m.m]) = G6 at s56 hml6
    refine ⟨Nat.zero_le _, fun dl ndl => ?_⟩
    have s67 := same_upd (o := .lst []) ndl
    have hdl7 : upd G6 dl (.lst []) dl = some (.lst []) := upd_same
    generalize upd G6 dl (.lst []) = G7 at s67 hdl7
    refine ⟨by show 3 ≤ sizeLine; decide, fun t nt => ?_⟩
    have s78 := same_upd (o := .tup [V.ref y, .ref ml, .ref dl]) nt
    have ht8 : upd G7 t (.tup [V.ref y, .ref ml, .ref dl]) t = some (.tup [V.ref y, .ref ml, .ref dl]) := upd_same
    generalize upd G7 t (.tup [V.ref y, .ref ml, .ref dl]) = G8 at s78 ht8
    refine ⟨by show 1 ≤ sizeLine; decide, fun L nL => ?_⟩
    have s89 := same_upd (o := .lst [V.ref t]) nL
    have hL9 : upd G8 L (.lst [V.ref t]) L = some (.lst ([t].map V.ref)) := upd_same
    generalize upd G8 L (.lst [V.ref t]) = G9 at s89 hL9
    have s38 := s34.trans (((s45.trans s56).trans s67).trans s78)
    have s49 := (((s45.trans s56).trans s67).trans s78).trans s89
    have s39 := s34.trans s49
    have w9 := w3.same s39
    have hp9 := hp3.same s39
    have st : St95 K C CL T p L zs [⟨y, la, [mdAt zs []], [], [m], ml, dl, []⟩] [t] [p, L, y, la.b, la.d] G9 := by
      have nn : ∀ {c : Addr}, G3 c = none → c ≠ p := fun n z => by
        obtain ⟨o, eo, _⟩ := hp3.mut
        rw [z, eo] at n
        cases n
      have hl9 := hl4.same s49
      have s48 := ((s45.trans s56).trans s67).trans s78
      have some4 : ∀ c ∈ [p, y, la.b, la.d], ∃ o, G4 c = some o := fun c hc => by
        rcases List.mem_cons.mp hc with rfl | hc
        · obtain ⟨o, eo, _⟩ := (hp3.same s34).mut
          exact ⟨o, eo⟩
        · obtain ⟨o, eo, _⟩ := ld_mut hl4 hc
          exact ⟨o, eo⟩
      have L4 : ∀ {c : Addr} {o : HO}, G8 c = some o → c ≠ L := fun e z => by rw [z, nL] at e; cases e
      have out4 : ∀ {c : Addr}, G4 c = none → c ≠ L → c ∉ [p, L, y, la.b, la.d] := fun {c} n nl hc => by
        simp only [List.mem_cons, List.not_mem_nil, or_false] at hc
        have : c ∈ [p, y, la.b, la.d] := by
          simp only [List.mem_cons, List.not_mem_nil, or_false]
          rcases hc with h | h | h | h | h
          · exact .inl h
          · exact absurd h nl
          · exact .inr (.inl h)
          · exact .inr (.inr (.inl h))
          · exact .inr (.inr (.inr h))
        obtain ⟨o, eo⟩ := some4 c this
        rw [n] at eo
        cases eo
      have mu : MuOk G9 [p, L, y, la.b, la.d] := fun c hc => by
        rcases List.mem_cons.mp hc with rfl | hc
        · exact hp9.mut
        rcases List.mem_cons.mp hc with rfl | hc
        · exact ⟨_, hL9, .inl ⟨_, rfl⟩⟩
        · exact ld_mut hl9 hc
      have LL : ∀ c ∈ [p, y, la.b, la.d], c ≠ L := fun c hc => by
        obtain ⟨o, eo⟩ := some4 c hc
        exact L4 (s48 _ _ eo)
      have nd3' := ld_nodup hl9
      have g0 : Gs zs (mdAt zs []) := Gd.new.gs nz List.length_replicate List.length_replicate
      have gb0 : Gb (mdAt zs []) := Gd.new.gb
      have hM9 : ModelAt K G9 zs m (mdAt zs []) := model_same hM5 ((((s56.trans s67).trans s78).trans s89))
      refine ⟨hp9, List.mem_cons_self, hL9, by simp, rfl, fun i t2 e h1 h2 => ?_, ?_, mu, w9.t, nz⟩
      · match i, h1, h2 with
        | 0, h1, h2 =>
          cases h1
          cases h2
          refine ⟨rest_in (out4 (s45.free (s56.free (s67.free nt))) (L4 ht8)) (s89 _ _ ht8), EntAt.of hl9 mu (rest_in (out4 (s45.free nml) (L4 (s78 _ _ (s67 _ _ hml6)))) (s89 _ _ (s78 _ _ (s67 _ _ hml6)))) (fun j m2 E h1 h2 => ?_) (rest_in (out4 (s45.free (s56.free ndl)) (L4 (s78 _ _ hdl7))) (s89 _ _ (s78 _ _ hdl7))) .nil rfl rfl (fun l hl => by cases hl) (fun j E h => ?_) ⟨by simp, by simp, by simp⟩⟩
          · match j, h1, h2 with
            | 0, h1, h2 =>
              cases h1
              cases h2
              refine model_rest hM9 (fun c hc => out4 (nm c hc) ?_) mu
              rcases hM5.cellK hc with ⟨_, e⟩ | ⟨_, e⟩ <;> exact L4 (s78 _ _ (s67 _ _ (s56 _ _ e)))
          · match j, h with
            | 0, h =>
              cases h
              exact ⟨g0, gb0, Gd.new.bd⟩
      · have pL : p ≠ L := LL p (by simp)
        have yL : y ≠ L := LL y (by simp)
        have bL' : la.b ≠ L := LL la.b (by simp)
        have dL' : la.d ≠ L := LL la.d (by simp)
        have yp : y ≠ p := nn ny
        have bp : la.b ≠ p := nn nb3
        have dp : la.d ≠ p := nn nd3
        simp only [List.flatMap_cons, List.flatMap_nil, List.append_nil, List.nodup_cons, List.mem_cons, List.not_mem_nil, or_false, not_or, List.nodup_nil, not_false_eq_true, and_true] at nd3' ⊢
        exact ⟨⟨pL, yp.symm, bp.symm, dp.symm⟩, ⟨yL.symm, bL'.symm, dL'.symm⟩, nd3'⟩
    refine ⟨.ref p, rfl, p, 21, rfl, hp9, litM _ (by decide) (by decide), fun t3 Ga t30 t31 hpa bta => ⟨t3.toNat, congrArg (fun z => [V.int z]) (by rw [Int.toNat_of_nonneg (by omega)]), by omega, by omega, ?_⟩⟩
    have sta := st.pot bta hpa
    refine for_it walk_range (fun j σ H' => ∃ (es : List Ent) (Ts Mu : List Addr) (z5 z6 z7 z8 : Option V), σ = [some (.ref a0), some (.int (0 + i)), some (.ref p), some (.ref nl), some (.ref L), z5, z6, z7, z8] ∧ St95 K C CL T p L zs es Ts Mu H' ∧ 1 ≤ es.length ∧ es.length ≤ 5 ∧ (∀ e ∈ es, e.lds.length ≤ j) ∧ Wd T H H' ∧ ∀ c ∈ Mu, Nw H c)
      ⟨_, _, _, _, _, _, _, rfl, sta, Nat.le_refl _, by show 1 ≤ 5; decide, (fun e he => by rw [List.mem_singleton.mp he]; exact Nat.le_refl _), w9.but bta hp9 nwp, ?nws⟩ (fun _ _ _ _ _ => trivial) (fun j x σ Hb' Hb hj hP hY => ?_) (fun σ Hb hP => ?_)
    case nws =>
      intro c hc
      have n3 : ∀ {c : Addr}, G3 c = none → Nw H c := fun n => w3.nw n
      simp only [List.mem_cons, List.not_mem_nil, or_false] at hc
      rcases hc with rfl | rfl | rfl | rfl | rfl
      · exact nwp
      · exact n3 (s38.free nL)
      · exact n3 ny
      · exact n3 nb3
      · exact n3 nd3
    · obtain ⟨rfl, rfl⟩ := hY
      obtain ⟨es, Ts, Mu, z5, z6, z7, z8, rfl, sb, l1, l5, lk, wb, nwM⟩ := hP
      have hj' : j < 21 := by omega
      refine ⟨.ref p, rfl, .ref L, rfl, p, L, zs, es, Ts, Mu, j, rfl, sb, l1, l5, lk, by omega, fun es Ts Mu' Hc sc mv l1 l5 lk => ?_⟩
      have wc : Wd T H Hc := ⟨fun c o e t => mv.st c o (fun hc => (nwM c hc).ne e t rfl) t (wb.e c o e t), sc.tb⟩
      have nwM' : ∀ c ∈ Mu', Nw H c := fun c hc => (mv.fr c hc).elim (nwM c) fun n => wb.nw n
      refine ⟨.ref L, rfl, L, rfl, ⟨_, .inl (.inl sc.hL)⟩, ?_⟩
      refine for_it (walk_list (K := K) (a := L) (xs := Ts.map V.ref)) (fun i' σ H' => ∃ (z6 z7 z8 : Option V), σ = [some (.ref a0), some (.int (0 + i)), some (.ref p), some (.ref nl), some (.ref L), some (.int (0 + j)), z6, z7, z8] ∧ St95 K C CL T p L zs es Ts Mu' H' ∧ Wd T H H') ⟨_, _, _, rfl, sc, wc⟩ (fun i' σ H' _ hP => ?_) (fun i' x σ Hd' Hd hi2 hP hY => ?_) (fun σ Hd hP => ?_)
      · obtain ⟨_, _, _, _, s1, _⟩ := hP
        exact .inl (.inl s1.hL)
      · obtain ⟨rfl, hx⟩ := hY
        obtain ⟨z6, z7, z8, rfl, sd, wd⟩ := hP
        have il : i' < es.length := by
          have : i' < (Ts.map V.ref).length := hi2
          rw [List.length_map, sd.ln] at this
          exact this
        obtain ⟨t2, e, h1, h2, rt, ve⟩ := sd.get il
        rw [List.getElem?_map, h1] at hx
        cases hx
        refine ⟨t2, _, rfl, .inl (.inl (rest_same _ _ rt)), rfl, _, _, rfl, _, _, rfl, _, _, rfl, rfl, ?_⟩
        obtain ⟨dx, hx⟩ := ve.hx
        have lk2 := lk e (List.mem_of_getElem? h2)
        refine ⟨.ref e.x, rfl, e.x, dx, _, rfl, hx, lg_no (NoFL.mk' (by decide +kernel)), e.x, e.a, zs, e.Es, _, rfl, ve.ld, fun r xs He se nr hre dde => ⟨.inl ⟨rfl, _, .inl (.inl hre)⟩, r, _, _, rfl, rfl, hre, small1000 (by have := dde.len; rw [List.length_map] at this; omega), ?_⟩⟩
        have sf : Same Hd (upd He r (.lst (xs ++ [V.str "other"]))) := fun c o e => by
          rw [upd_ne (ne_of_none e nr)]
          exact se _ _ e
        generalize upd He r (.lst (xs ++ [V.str "other"])) = Hf at sf
        have sdf := sd.same sf
        have wdf := wd.same sf
        obtain ⟨rt2, vf⟩ := sdf.row i' t2 e h1 h2
        obtain ⟨Es0, E9, eE, lE0⟩ := last_of vf.l1
        obtain ⟨ms0, m9, eM, lM0⟩ := last_of (l := e.ms) (by rw [vf.l2, vf.l1])
        have e9 : e.Es[Es0.length]? = some E9 := by rw [eE, List.getElem?_append_right (Nat.le_refl _), Nat.sub_self]; rfl
        have em9 : e.ms[Es0.length]? = some m9 := by rw [eM, List.getElem?_append_right (by omega), show Es0.length - ms0.length = 0 by omega]; rfl
        obtain ⟨g, gb, bd⟩ := vf.gs _ _ e9
        have hM9 := model_same (vf.mds _ _ _ em9 e9) rest_same
        have hml9 := rest_same _ _ vf.hml
        rw [eM, List.map_append] at hml9
        have hl := vf.ld
        rw [eE] at hl
        refine ⟨.ref e.x, rfl, .ref e.ml, rfl, _, rfl, e.ml, _, -1, .ref m9.m, rfl, rfl, .inl (.inl hml9), atI_last _ _, .ref e.dl, rfl, e.x, e.a, zs, Es0, E9, m9, e.dl, e.xs, e.lds, rfl, hl, g, gb, hM9, rest_same _ _ vf.hdl, DtAll.same rest_same _ vf.ddl, vf.ok, by omega, fun H4 s4 => ⟨_, rfl, iteF ⟨_, _, _, rfl, sdf.same s4, wdf.same s4⟩⟩⟩
      · obtain ⟨z6, z7, z8, rfl, sd, wd⟩ := hP
        exact ⟨es, Ts, Mu', _, _, _, _, rfl, sd, l1, l5, lk, wd, nwM'⟩
    · obtain ⟨es, Ts, Mu, z5, z6, z7, z8, rfl, _, _, _, _, wb, _⟩ := hP
      exact ⟨_, _, _, _, _, _, _, _, rfl, wb⟩
end
end Rc

namespace Rc
open PySem PySem.Spec PyProof.Rows L2
/-- a def of the text, by its name -/
def DefOf {K : PySem.W.Frag} {h : Heap} (_ : K.In h) (mg : Str → Option Value) (nm : Str) (st : Stmt) : Prop := ∃ f fd, Fun K nm nm st f fd ∧ mg nm = some (.ref f)
theorem mkDef {K : PySem.W.Frag} {h : Heap} {mg : Str → Option Value} (X : K.In h) (G : h.Ns mainGlobals mg) {nm : Str} {st : Stmt} {f : Addr} {oc : Value} {od an : Option Addr} {osl : Array (Option Value)} {kV doc pm cdv ct : Value}
    (a : PySem.W.nsIn K mainGlobals nm = some (some (.ref f)))
    (l : K.lookup f = some ⟨oc, od, .func (PySem.W.fnOf nm nm (defArgs st) (defBody st) (defScope st) .none kV doc pm an cdv ct), osl⟩)
    (c : PySem.W.codeIn K cdv nm = true) (k : PySem.W.keepIn K (.ref f) = true) : DefOf X mg nm st := ⟨f, _, fun_mk l c k, PySem.W.mg_of X G a⟩
/-- a method of the class C -/
def MethOf (K : PySem.W.Frag) (C : Addr) (nm qual : Str) (st : Stmt) : Prop := ∃ f fd, Fun K nm qual st f fd ∧ Meth K C nm f
theorem mkMeth {K : PySem.W.Frag} {C : Addr} {nm qual : Str} {st : Stmt} {f : Addr} {oc : Value} {od an : Option Addr} {osl : Array (Option Value)} {kV doc pm cdv ct : Value}
    (a : PySem.W.findIn K (.ref C) nm = some (some (.ref f))) (i : PySem.W.isFn K (.ref f) = true)
    (l : K.lookup f = some ⟨oc, od, .func (PySem.W.fnOf nm qual (defArgs st) (defBody st) (defScope st) .none kV doc pm an cdv ct), osl⟩)
    (c : PySem.W.codeIn K cdv qual = true) (k : PySem.W.keepIn K (.ref f) = true) : MethOf K C nm qual st := ⟨f, _, fun_mk l c k, a, i, k⟩
structure TopB (K : PySem.W.Frag) (mg : Str → Option Value) (C : Addr) : Prop where
  T : ClsF K C
  g : mg "Book" = some (.ref C)
  makes : PySem.W.makesIn K C = true
  kp : PySem.W.keepIn K (.ref C) = true
theorem mkTop {K : PySem.W.Frag} {h : Heap} {mg : Str → Option Value} {C : Addr} (X : K.In h) (G : h.Ns mainGlobals mg) (a : PySem.W.nsIn K mainGlobals "Book" = some (some (.ref C)))
    (pg : PySem.W.plainGet K C Str.empty = true) (hd : PySem.W.hasDictIn K C = true) (po : PySem.W.plainOver K C = true) (sa : PySem.W.findIn K (.ref C) "__setattr__" = some (some (.builtin "object.__setattr__"))) (mk : PySem.W.makesIn K C = true) (kc : PySem.W.keepIn K (.ref C) = true)
    (n1 : PySem.W.findIn K (.ref C) "names" = some none) (n2 : PySem.W.findIn K (.ref C) "gifts" = some none) (n3 : PySem.W.findIn K (.ref C) "stacks" = some none) (n4 : PySem.W.findIn K (.ref C) "drops" = some none) : TopB K mg C :=
  ⟨⟨⟨pg, hd, po, sa⟩, n1, n2, n3, n4⟩, PySem.W.mg_of X G a, mk, kc⟩
def ConOf (mg : Str → Option Value) (nm : Str) (v : V) : Prop := ∃ u, mg nm = some u ∧ RelV v u
theorem con_of {K : PySem.W.Frag} {h : Heap} {mg : Str → Option Value} (X : K.In h) (G : h.Ns mainGlobals mg) {nm : Str} {v : V} {u : Value} (a : PySem.W.nsIn K mainGlobals nm = some (some u)) (r : RelV v u) : ConOf mg nm v := ⟨u, PySem.W.mg_of X G a, r⟩
section
variable {K : PySem.W.Frag} {nm q x y z u4 : Str} {st : Stmt} {f : Addr} {fd : FuncData}
theorem bind1 (F : Fun K nm q st f fd)
    (h : ∀ (kV doc pm : Value) (an : Option Addr) (cdv ct v : Value), bindArgs (PySem.W.fnOf nm q (defArgs st) (defBody st) (defScope st) .none kV doc pm an cdv ct) ⟨[v], []⟩ = pure [(x, v)]) : Binds K fd [x] [] :=
  F.binds (ps := [x]) fun kV doc pm an cdv ct us hl => match us, hl with | [v], _ => h kV doc pm an cdv ct v
theorem bind2 (F : Fun K nm q st f fd)
    (h : ∀ (kV doc pm : Value) (an : Option Addr) (cdv ct u v : Value), bindArgs (PySem.W.fnOf nm q (defArgs st) (defBody st) (defScope st) .none kV doc pm an cdv ct) ⟨[u, v], []⟩ = pure [(x, u), (y, v)]) : Binds K fd [x, y] [] :=
  F.binds (ps := [x, y]) fun kV doc pm an cdv ct us hl => match us, hl with | [u, v], _ => h kV doc pm an cdv ct u v
theorem bind3 (F : Fun K nm q st f fd)
    (h : ∀ (kV doc pm : Value) (an : Option Addr) (cdv ct u v w : Value), bindArgs (PySem.W.fnOf nm q (defArgs st) (defBody st) (defScope st) .none kV doc pm an cdv ct) ⟨[u, v, w], []⟩ = pure [(x, u), (y, v), (z, w)]) : Binds K fd [x, y, z] [] :=
  F.binds (ps := [x, y, z]) fun kV doc pm an cdv ct us hl => match us, hl with | [u, v, w], _ => h kV doc pm an cdv ct u v w
theorem bind4 (F : Fun K nm q st f fd)
    (h : ∀ (kV doc pm : Value) (an : Option Addr) (cdv ct u v w t : Value), bindArgs (PySem.W.fnOf nm q (defArgs st) (defBody st) (defScope st) .none kV doc pm an cdv ct) ⟨[u, v, w, t], []⟩ = pure [(x, u), (y, v), (z, w), (u4, t)]) : Binds K fd [x, y, z, u4] [] :=
  F.binds (ps := [x, y, z, u4]) fun kV doc pm an cdv ct us hl => match us, hl with | [u, v, w, t], _ => h kV doc pm an cdv ct u v w t
end
section
variable {P : Program} {w : World} {K : PySem.W.Frag} {mg : Str → Option Value} {base : Heap} {C f : Addr} {fd : FuncData} {k : Nat} {nm : Str} {ps : List Str} {sp : Sp} {st : Stmt}
end
end Rc

namespace Rc
open PySem PySem.Spec PyProof.Rows L2 RZ LamX
/-! ### what the top leaves of class Course -/
structure TopC (K : PySem.W.Frag) (mg : Str → Option Value) (C : Addr) : Prop where
  T : ClsC K C
  g : mg "Course" = some (.ref C)
  makes : PySem.W.makesIn K C = true
  kp : PySem.W.keepIn K (.ref C) = true
theorem mkTopC {K : PySem.W.Frag} {h : Heap} {mg : Str → Option Value} {C : Addr} (X : K.In h) (G : h.Ns mainGlobals mg) (a : PySem.W.nsIn K mainGlobals "Course" = some (some (.ref C)))
    (pg : PySem.W.plainGet K C Str.empty = true) (hd : PySem.W.hasDictIn K C = true) (po : PySem.W.plainOver K C = true) (sa : PySem.W.findIn K (.ref C) "__setattr__" = some (some (.builtin "object.__setattr__"))) (mk : PySem.W.makesIn K C = true) (kc : PySem.W.keepIn K (.ref C) = true)
    (n1 : PySem.W.findIn K (.ref C) "heaps" = some none) (n2 : PySem.W.findIn K (.ref C) "purses" = some none) (n3 : PySem.W.findIn K (.ref C) "sunk" = some none) (n4 : PySem.W.findIn K (.ref C) "steps" = some none) : TopC K mg C :=
  ⟨⟨⟨pg, hd, po, sa⟩, n1, n2, n3, n4⟩, PySem.W.mg_of X G a, mk, kc⟩
/-- a method whose code object stands at c -/
def MethOfC (K : PySem.W.Frag) (C : Addr) (nm qual : Str) (st : Stmt) (c : Addr) : Prop := ∃ f fd, Fun K nm qual st f fd ∧ Meth K C nm f ∧ fd.code = .ref c
theorem mkMethC {K : PySem.W.Frag} {C : Addr} {nm qual : Str} {st : Stmt} {f c : Addr} {oc : Value} {od an : Option Addr} {osl : Array (Option Value)} {kV doc pm ct : Value}
    (a : PySem.W.findIn K (.ref C) nm = some (some (.ref f))) (i : PySem.W.isFn K (.ref f) = true)
    (l : K.lookup f = some ⟨oc, od, .func (PySem.W.fnOf nm qual (defArgs st) (defBody st) (defScope st) .none kV doc pm an (.ref c) ct), osl⟩)
    (cd : PySem.W.codeIn K (.ref c) qual = true) (k : PySem.W.keepIn K (.ref f) = true) : MethOfC K C nm qual st c := ⟨f, _, fun_mk l cd k, ⟨a, i, k⟩, rfl⟩
/-- what is asked of the table of code -/
theorem law_tab {l : PySem.W.OpenLaw} {w : World} {K : PySem.W.Frag} {CX : CXT} {k : Nat} {mg : Str → Option Value} {fa : Addr} {h : Heap} {c PT : Addr} {fd : FuncData} {q : Str} (X : K.In h) (hT : h.get? PT = some { cls := .none, data := .fields #[] }) (nT : K.lookup PT = none) (CH : PySem.W.codeHdIn K c PT = true)
    (hb : ∀ (s : Shared) (u : Value), BindsTo s fd ⟨[u], []⟩ [("_law_script", u)]) (F : ∀ base : Heap, K.In base → base.Ns mainGlobals mg → TabB base mg c PT → FnG l.prog w K mg base CX k fa fd ["_law_script"] (spLawT K [(PT, q)])) : LawAtG l w K CX k 63 "_law_script" mg fa h := by
  refine ⟨fd, [(c, PT)], spLawT K [(PT, q)], fun p hp => ?_, hb, fun H a ns hl hH hS => ⟨a, ns, rfl, hS, hl, fun p hp => ?_, fun _ => rfl⟩, fun base b1 b2 b3 => F base b1 b2 (b3 (c, PT) List.mem_cons_self)⟩
  · rw [List.mem_singleton.mp hp]
    exact ⟨hT, nT, PySem.W.codeHd_of_K X CH⟩
  · rw [List.mem_singleton.mp hp]
    exact TabS.nil (hH (c, PT) List.mem_cons_self)
end Rc

namespace Rc
open PySem PySem.Spec PyProof.Rows L2
/-! ### the class Ledger, at the top -/
structure TopL (K : PySem.W.Frag) (mg : Str → Option Value) (C : Addr) : Prop where
  T : ClsL K C
  g : mg "Ledger" = some (.ref C)
  makes : PySem.W.makesIn K C = true
  kp : PySem.W.keepIn K (.ref C) = true
theorem mkTopL {K : PySem.W.Frag} {h : Heap} {mg : Str → Option Value} {C : Addr} (X : K.In h) (G : h.Ns mainGlobals mg) (a : PySem.W.nsIn K mainGlobals "Ledger" = some (some (.ref C)))
    (pg : PySem.W.plainGet K C Str.empty = true) (hd : PySem.W.hasDictIn K C = true) (po : PySem.W.plainOver K C = true) (sa : PySem.W.findIn K (.ref C) "__setattr__" = some (some (.builtin "object.__setattr__"))) (mk : PySem.W.makesIn K C = true) (kc : PySem.W.keepIn K (.ref C) = true)
    (n1 : PySem.W.findIn K (.ref C) "books" = some none) (n2 : PySem.W.findIn K (.ref C) "deeds" = some none) : TopL K mg C :=
  ⟨⟨⟨pg, hd, po, sa⟩, n1, n2⟩, PySem.W.mg_of X G a, mk, kc⟩
/-- a method with one default -/
def MethDOf (K : PySem.W.Frag) (C : Addr) (nm qual : Str) (st : Stmt) (v : V) : Prop := ∃ f fd, FunD K nm qual (defArgs st) (defBody st) (defScope st) [v] [] f fd ∧ Meth K C nm f
theorem mkMethD {K : PySem.W.Frag} {C : Addr} {nm qual : Str} {st : Stmt} {f Td : Addr} {oc : Value} {od an : Option Addr} {osl : Array (Option Value)} {kV doc pm cdv ct u : Value} {v : V} {o : Obj} {n : Nat}
    (a : PySem.W.findIn K (.ref C) nm = some (some (.ref f))) (i : PySem.W.isFn K (.ref f) = true)
    (l : K.lookup f = some ⟨oc, od, .func (PySem.W.fnOf nm qual (defArgs st) (defBody st) (defScope st) (.ref Td) kV doc pm an cdv ct), osl⟩)
    (c : PySem.W.codeIn K cdv qual = true) (k : PySem.W.keepIn K (.ref f) = true) (t : K.lookup Td = some o) (t2 : o.data = .seq #[u] n) (r : RelV v u) : MethDOf K C nm qual st v :=
  ⟨f, _, ⟨⟨_, _, _, _, _, _, _, _, _, _, rfl, l, c, .inr ⟨(fun z => by cases z), Td, o, [u], n, rfl, t, t2, .cons r .nil⟩, .inl rfl⟩, k⟩, a, i, k⟩
theorem backB2 {K : PySem.W.Frag} {f : Addr} {fd : FuncData} (F : FunD K "back" "Ledger.back" (defArgs sLgBa) (defBody sLgBa) (defScope sLgBa) [.int 1] [] f fd) : Binds K fd ["self", "many"] [] := by
  obtain ⟨ds, v, b⟩ := FunD.binds1 F (ps := ["self", "many"]) 2 1 (fun z => by cases z) rfl fun T kV doc pm an cdv ct us its h1 h2 => match us, its, h1, h2 with | [_, _], [_], _, _ => ⟨_, rfl, rfl⟩
  cases v
  exact b
theorem backB1 {K : PySem.W.Frag} {f : Addr} {fd : FuncData} (F : FunD K "back" "Ledger.back" (defArgs sLgBa) (defBody sLgBa) (defScope sLgBa) [.int 1] [] f fd) : ∃ ds, Vals [V.int 1] ds ∧ Binds K fd ["self", "many"] ds :=
  FunD.binds1 F (ps := ["self", "many"]) 1 0 (fun z => by cases z) rfl fun T kV doc pm an cdv ct us its h1 h2 => match us, its, h1, h2 with | [_], [_], _, _ => ⟨_, rfl, rfl⟩
end Rc

namespace Rc
open PySem PySem.W PySem.Calls PyProof.Rows
abbrev RR : PySem.W.OpenRow := PySem.W.OpenLaw.row PySem.Challenge.rw_ringclear_k95_copies
def qv : Program := PySem.W.view RR.prog [80]
def ln0 : List PySem.Str := ["_wall", "BookError", "NoBook", "NoAmount", "NoStep", "NoVector", "NoBack", "NoSuch", "NoRing", "Full", "TooMuch", "Short", "LETTERS", "LONGEST", "is_name", "is_whole", "is_amount", "MOST", "MOST_PERSONS", "check_persons", "check_amount", "split_notes", "with_changed", "Book", "due_of", "all_dues", "trail_by", "ring_by", "rings_by", "check_person"]
def ln1 : List PySem.Str := ["ring_of", "most_to_pay", "least_due", "pay_on", "clear_ring", "ACTIONS", "is_step", "stepped", "Course", "course_of", "settled_book", "Ledger", "_law_pot", "_law_take", "_law_name", "_law_names", "_law_among", "_law_amount", "_law_model", "_law_parted", "_law_left", "_law_cash", "_law_next", "_law_trail", "_law_ring", "_law_deeds", "_law_done", "_law_alike", "_law_fall", "_law_most"]
def ln2 : List PySem.Str := ["_law_least", "_law_is_settled", "_law_sweep", "_law_settle", "_law_copied", "_law_step", "_law_went", "_law_deed_drawn", "_law_model_did", "_law_ledger_did", "_law_stands", "_law_round"]
def looseN : List PySem.Str := ln0 ++ ln1 ++ ln2
/-- what the hook of the objects and the tables sees, off the tree -/
def obK (as ts : List Addr) : PySem.W.SharedT → List (Option Obj) × List (Option Obj) := fun s => (as.map (HandSHeadRun.getT s), ts.map (HandSHeadRun.getT s))
theorem obK_ok {K : Params → PySem.W.Frag} {as ts : List Addr} {e : ∀ P, as = (K P).map (·.1)} (s : PySem.W.SharedT) : obK as ts s = (PySem.W.kmHook K as e ts).obs s.abs := by
  have h : ∀ l : List Addr, l.map (HandSHeadRun.getT s) = l.map s.abs.heap.get? := fun l => List.map_congr_left fun a _ => HandSHeadRun.getT_eq s a
  show (as.map (HandSHeadRun.getT s), ts.map (HandSHeadRun.getT s)) = (as.map s.abs.heap.get?, ts.map s.abs.heap.get?)
  rw [h as, h ts]
def dL : DefRec := HandSHeadRun.topDef RR.prog 80
theorem hx1 : PySem.W.opening RR.prog = PySem.W.plainProg RR.prog.main.scope.names := by kernel_rfl
theorem hx2 : ∀ s, fenceModules? RR.prog s = some s := fun s => by kernel_rfl
theorem hx3 : defOf qv RR.name = some (dL, []) := by kernel_rfl
theorem hx4 : RR.prog.theDef RR.name = some (dL.params, dL.body, dL.scope) := by kernel_rfl
theorem hx5 : PySem.W.kwWritten? dL.params.kwonlyargs dL.params.kw_defaults = some [] := by kernel_rfl
theorem hx6 : (!RR.writes || RR.records.isEmpty) = true := by kernel_rfl
theorem hx7 : (PySem.W.chainsOk qv && PySem.W.opensWell RR.prog && (PySem.W.frees RR.toRowW && RR.within.isEmpty)) = true := by kernel_rfl
theorem hx8 : RR.prog.bare := ⟨by kernel_rfl, by kernel_rfl, by kernel_rfl, by kernel_rfl, by kernel_rfl, by decide +kernel⟩
theorem dL_name : dL.name = "law" := by kernel_rfl
theorem dL_defs : dL.params.defaults = [] := by kernel_rfl
end Rc

set_option pp.maxSteps 300
set_option pp.deepTerms false
open PySem PySem.W PyProof.Rows
local macro_rules | `(tactic| o_head ($f:ident $K $as $e $ts)) => `(tactic| (refine HandSHeadRun.head_any (r := PySem.W.OpenLaw.row PySem.Challenge.rw_ringclear_k95_copies) (q := Rc.qv) (H := PySem.W.kmHook $K $as ?he $ts) (ob := Rc.obK $as $ts) (M := 20000) (loose := Rc.looseN) (kwd := []) (d := Rc.dL) Rc.obK_ok Rc.hx1 Rc.hx2 ?hrun Rc.hx3 Rc.hx4 Rc.hx5 Rc.hx6 ?hsaid Rc.hx7 Rc.hx8 ?hw ?hc; (case he => intro P; kernel_rfl)))
set_option maxHeartbeats 0 in
theorem Rc.hdA (hr : ∀ K as e ts w, HandSHeadRun.RunEq (PySem.W.OpenLaw.row PySem.Challenge.rw_ringclear_k95_copies) Rc.qv (PySem.W.kmHook K as e ts) (Rc.obK as ts) 20000 Rc.looseN w) (hc : ∀ K as e ts, WalkO Rc.qv Rc.looseN (XL Rc.qv []) (PySem.W.kmHook K as e ts).says (PySem.W.OpenLaw.row PySem.Challenge.rw_ringclear_k95_copies).toRowW Rc.dL [] fun f vs => call f vs) : PySem.Challenge.rw_ringclear_k95_copies.Holds := by
  w_on; o_law; km_head
  (case hsaid => assumption)
  (case hrun => exact fun w => hr _ _ _ _ w)
  (case hw => w_witness2)
  exact hc _ _ _ _
namespace Rc
def asK0 : List Addr := [2, 3, 15, 17, 18, 20, 21, 22, 29, 30, 31, 32, 35, 38, 43, 44, 46, 47, 49, 50, 51, 52, 53, 56, 63, 64, 65, 68, 75, 76, 77, 80, 87, 88, 89, 92, 99, 100, 101, 104]
def asK1 : List Addr := [107, 112, 113, 115, 116, 118, 119, 120, 121, 122, 123, 126, 129, 134, 135, 137, 138, 140, 141, 142, 143, 144, 145, 148, 151, 156, 157, 159, 160, 162, 163, 164, 165, 166, 167, 170, 173, 178, 179, 181]
def asK2 : List Addr := [182, 184, 185, 186, 187, 188, 189, 192, 195, 200, 201, 203, 204, 206, 207, 208, 209, 210, 211, 214, 217, 218, 219, 221, 222, 224, 225, 226, 228, 229, 231, 232, 233, 235, 236, 238, 239, 240, 242, 243]
def asK3 : List Addr := [245, 246, 247, 249, 250, 252, 253, 254, 256, 257, 259, 260, 268, 270, 271, 273, 274, 275, 277, 278, 280, 281, 282, 284, 285, 287, 288, 289, 291, 292, 294, 295, 296, 298, 299, 301, 302, 303, 305, 306]
def asK4 : List Addr := [308, 309, 310, 312, 313, 315, 316, 317, 319, 320, 322, 323, 324, 326, 327, 329, 330, 331, 334, 335, 336, 339, 340, 341, 343, 344, 346, 347, 348, 351, 352, 353, 355, 356, 358, 359, 360, 362, 363, 365]
def asK5 : List Addr := [366, 367, 370, 371, 372, 374, 375, 377, 378, 379, 382, 383, 384, 386, 387, 389, 390, 391, 393, 394, 396, 397, 398, 399, 400, 401, 402, 405, 407, 408, 410, 411, 412, 415, 416, 417, 419, 420, 422, 423]
def asK6 : List Addr := [424, 427, 428, 429, 431, 432, 434, 435, 436, 438, 439, 441, 442, 443, 445, 446, 448, 449, 450, 452, 453, 455, 456, 457, 460, 461, 462, 464, 465, 467, 468, 469, 472, 473, 474, 475, 477, 478, 480, 481]
def asK7 : List Addr := [482, 484, 485, 487, 488, 496, 499, 500, 501, 504, 505, 506, 508, 509, 511, 512, 513, 516, 517, 518, 521, 522, 523, 524, 525, 526, 527, 530, 532, 533, 535, 536, 537, 539, 540, 542, 543, 551, 553, 554]
def asK8 : List Addr := [556, 557, 558, 560, 561, 563, 564, 565, 567, 568, 570, 571, 572, 574, 575, 577, 578, 579, 581, 582, 584, 585, 586, 588, 589, 591, 592, 593, 595, 596, 598, 599, 600, 602, 603, 605, 606, 607, 609, 610]
def asK9 : List Addr := [612, 613, 614, 615, 617, 618, 620, 621, 622, 624, 625, 627, 628, 629, 631, 632, 634, 635, 636, 637, 638, 639, 640, 643, 645, 646, 648, 649, 650, 652, 653, 655, 656, 657, 660, 661, 662, 664, 665, 667]
def asK10 : List Addr := [668, 669, 671, 672, 674, 675, 676, 678, 679, 681, 682, 683, 686, 687, 688, 690, 691, 693, 694, 695, 697, 698, 700, 701, 702, 705, 706, 707, 709, 710, 712, 713, 714, 716, 717, 719, 720, 721, 724, 725]
def asK11 : List Addr := [726, 728, 729, 731, 732, 733, 735, 736, 738, 739, 740, 742, 743, 745, 746, 747, 749, 750, 752, 753, 754, 756, 757, 759, 760, 761, 764, 765, 766, 768, 769, 771, 772, 773, 775, 776, 778, 779, 780, 783]
def asK12 : List Addr := [784, 785, 787, 788, 790, 791, 792, 794, 795, 797, 798, 799, 801, 802, 804, 805, 806, 808, 809, 811, 812, 813, 815, 816, 818, 819, 820, 822, 823, 825, 826, 827, 829, 830, 832, 833, 834, 836, 837, 839]
def asK13 : List Addr := [840, 841, 843, 844, 846, 847]
def asK : List Addr := asK0 ++ (asK1 ++ (asK2 ++ (asK3 ++ (asK4 ++ (asK5 ++ (asK6 ++ (asK7 ++ (asK8 ++ (asK9 ++ (asK10 ++ (asK11 ++ (asK12 ++ (asK13)))))))))))))
abbrev tsK : List Addr := [519]
theorem eK : ∀ P, asK = (hdA.heap_39 P).map (·.1) := fun P => by kernel_rfl
set_option maxHeartbeats 0 in
theorem run1 (w : PySem.World) : HandSHeadRun.RunEq (PySem.W.OpenLaw.row PySem.Challenge.rw_ringclear_k95_copies) qv (PySem.W.kmHook hdA.heap_39 asK eK tsK) (obK asK tsK) 20000 looseN (w.withFollow "special-get-raises" false) := by
  intro os
  kernel_rfl
set_option maxHeartbeats 0 in
theorem run2 (w : PySem.World) : HandSHeadRun.RunEq (PySem.W.OpenLaw.row PySem.Challenge.rw_ringclear_k95_copies) qv (PySem.W.kmHook hdA.heap_39 asK eK tsK) (obK asK tsK) 20000 looseN (w.withFollow "special-get-raises" true) := by
  intro os
  kernel_rfl
end Rc

namespace Rc
open PySem PySem.Spec PyProof.Rows L2 LamX
set_option maxHeartbeats 0 in
theorem all_mk {l : PySem.W.OpenLaw} {w : World} {K : PySem.W.Frag} {h : Heap} {mg : Str → Option Value} {fa C CC c PT CL : Addr} (X : K.In h)
    (hfa : mg "law" = some (.ref fa))
    (hT : h.get? PT = some { cls := .none, data := .fields #[] })
    (nT : K.lookup PT = none)
    (TC : TopB K mg C)
    (TCC : TopC K mg CC)
    (TLC : TopL K mg CL)
    (d_is_name : DefOf X mg "is_name" (topS 16))
    (d_is_whole : DefOf X mg "is_whole" (topS 17))
    (d_is_amount : DefOf X mg "is_amount" (topS 18))
    (d_check_persons : DefOf X mg "check_persons" (topS 22))
    (d_check_amount : DefOf X mg "check_amount" (topS 23))
    (d_split_notes : DefOf X mg "split_notes" (topS 24))
    (d_with_changed : DefOf X mg "with_changed" (topS 25))
    (d_due_of : DefOf X mg "due_of" (topS 28))
    (d_all_dues : DefOf X mg "all_dues" (topS 29))
    (d_trail_by : DefOf X mg "trail_by" (topS 30))
    (d_ring_by : DefOf X mg "ring_by" (topS 31))
    (d_check_person : DefOf X mg "check_person" (topS 33))
    (d_ring_of : DefOf X mg "ring_of" (topS 34))
    (d_rings_by : DefOf X mg "rings_by" (topS 32))
    (d_course_of : DefOf X mg "course_of" (topS 45))
    (d_settled_book : DefOf X mg "settled_book" (topS 46))
    (d_most_to_pay : DefOf X mg "most_to_pay" (topS 36))
    (d_least_due : DefOf X mg "least_due" (topS 37))
    (d_pay_on : DefOf X mg "pay_on" (topS 38))
    (d_clear_ring : DefOf X mg "clear_ring" (topS 39))
    (d_is_step : DefOf X mg "is_step" (topS 41))
    (d_stepped : DefOf X mg "stepped" (topS 42))
    (d_l_pot : DefOf X mg "_law_pot" (topS 50))
    (d_l_take : DefOf X mg "_law_take" (topS 51))
    (d_l_name : DefOf X mg "_law_name" (topS 52))
    (d_l_names : DefOf X mg "_law_names" (topS 53))
    (d_l_among : DefOf X mg "_law_among" (topS 54))
    (d_l_amount : DefOf X mg "_law_amount" (topS 55))
    (d_l_model : DefOf X mg "_law_model" (topS 56))
    (d_l_parted : DefOf X mg "_law_parted" (topS 57))
    (d_l_left : DefOf X mg "_law_left" (topS 58))
    (d_l_cash : DefOf X mg "_law_cash" (topS 59))
    (d_l_next : DefOf X mg "_law_next" (topS 60))
    (d_l_trail : DefOf X mg "_law_trail" (topS 61))
    (d_l_ring : DefOf X mg "_law_ring" (topS 62))
    (d_l_deeds : DefOf X mg "_law_deeds" (topS 63))
    (d_l_done : DefOf X mg "_law_done" (topS 64))
    (d_l_alike : DefOf X mg "_law_alike" (topS 65))
    (d_l_fall : DefOf X mg "_law_fall" (topS 66))
    (d_l_most : DefOf X mg "_law_most" (topS 67))
    (d_l_least : DefOf X mg "_law_least" (topS 68))
    (d_l_is_settled : DefOf X mg "_law_is_settled" (topS 69))
    (d_l_sweep : DefOf X mg "_law_sweep" (topS 70))
    (d_l_settle : DefOf X mg "_law_settle" (topS 71))
    (d_l_copied : DefOf X mg "_law_copied" (topS 72))
    (d_l_step : DefOf X mg "_law_step" (topS 73))
    (d_l_went : DefOf X mg "_law_went" (topS 74))
    (d_l_deed_drawn : DefOf X mg "_law_deed_drawn" (topS 75))
    (d_l_model_did : DefOf X mg "_law_model_did" (topS 76))
    (d_l_ledger_did : DefOf X mg "_law_ledger_did" (topS 77))
    (d_l_stands : DefOf X mg "_law_stands" (topS 78))
    (d_l_round : DefOf X mg "_law_round" (topS 79))
    (d_law : DefOf X mg "law" (topS 80))
    (m_init : MethOf K C "__init__" "Book.__init__" (inBook 0))
    (m_with_these : MethOf K C "with_these" "Book.with_these" (inBook 1))
    (m_has : MethOf K C "has" "Book.has" (inBook 4))
    (m_place_of : MethOf K C "place_of" "Book.place_of" (inBook 2))
    (m_persons : MethOf K C "persons" "Book.persons" (inBook 3))
    (m_given : MethOf K C "given" "Book.given" (inBook 5))
    (m_fallen : MethOf K C "fallen" "Book.fallen" (inBook 6))
    (m_notes : MethOf K C "notes" "Book.notes" (inBook 7))
    (m_pile : MethOf K C "pile" "Book.pile" (inBook 8))
    (m_fallen_to : MethOf K C "fallen_to" "Book.fallen_to" (inBook 10))
    (m_cash : MethOf K C "cash" "Book.cash" (inBook 11))
    (m_put : MethOf K C "put" "Book.put" (inBook 12))
    (m_give : MethOf K C "give" "Book.give" (inBook 13))
    (m_whole_of : MethOf K C "whole_of" "Book.whole_of" (inBook 9))
    (m_may_fall : MethOf K C "may_fall" "Book.may_fall" (inBook 14))
    (m_let_fall : MethOf K C "let_fall" "Book.let_fall" (inBook 15))
    (mc_init : MethOf K CC "__init__" "Course.__init__" (inCourse 0))
    (mc_dues : MethOf K CC "dues" "Course.dues" (inCourse 1))
    (mc_sink : MethOf K CC "sink" "Course.sink" (inCourse 2))
    (mc_clear_one : MethOf K CC "clear_one" "Course.clear_one" (inCourse 3))
    (ml_init : MethOf K CL "__init__" "Ledger.__init__" (inLedger 0))
    (ml_note_down : MethOf K CL "note_down" "Ledger.note_down" (inLedger 1))
    (ml_book : MethOf K CL "book" "Ledger.book" (inLedger 2))
    (ml_log : MethOf K CL "log" "Ledger.log" (inLedger 3))
    (ml_put : MethOf K CL "put" "Ledger.put" (inLedger 4))
    (ml_give : MethOf K CL "give" "Ledger.give" (inLedger 5))
    (ml_step : MethOf K CL "step" "Ledger.step" (inLedger 6))
    (ml_settle : MethOf K CL "settle" "Ledger.settle" (inLedger 8))
    (ml_copied : MethOf K CL "copied" "Ledger.copied" (inLedger 10))
    (ml_len : MethOf K CL "__len__" "Ledger.__len__" (inLedger 11))
    (mlb : MethDOf K CL "back" "Ledger.back" (inLedger 9) (.int 1))
    (mcp : MethOfC K CC "pay_one" "Course.pay_one" (inCourse 4) c)
    (CH : PySem.W.codeHdIn K c PT = true)
    (c_LETTERS : ConOf mg "LETTERS" (.str "abcdefghijklmnopqrstuvwxyz"))
    (c_LONGEST : ConOf mg "LONGEST" (.int 8))
    (c_MOST : ConOf mg "MOST" (.int 60))
    (c_MOST_PERSONS : ConOf mg "MOST_PERSONS" (.int 12))
    (B : Blt mg)
    (B2 : Blt2 mg)
    (B3 : Blt3 mg)
    (xTA : TabOf X w mg "ACTIONS" "pay_on" "clear_ring") :
    LawAtG l w K CX0 14 63 "_law_script" mg fa h := by
  obtain ⟨f_is_name, fd_is_name, F_is_name, g_is_name⟩ := d_is_name
  obtain ⟨f_is_whole, fd_is_whole, F_is_whole, g_is_whole⟩ := d_is_whole
  obtain ⟨f_is_amount, fd_is_amount, F_is_amount, g_is_amount⟩ := d_is_amount
  obtain ⟨f_check_persons, fd_check_persons, F_check_persons, g_check_persons⟩ := d_check_persons
  obtain ⟨f_check_amount, fd_check_amount, F_check_amount, g_check_amount⟩ := d_check_amount
  obtain ⟨f_split_notes, fd_split_notes, F_split_notes, g_split_notes⟩ := d_split_notes
  obtain ⟨f_with_changed, fd_with_changed, F_with_changed, g_with_changed⟩ := d_with_changed
  obtain ⟨f_due_of, fd_due_of, F_due_of, g_due_of⟩ := d_due_of
  obtain ⟨f_all_dues, fd_all_dues, F_all_dues, g_all_dues⟩ := d_all_dues
  obtain ⟨f_trail_by, fd_trail_by, F_trail_by, g_trail_by⟩ := d_trail_by
  obtain ⟨f_ring_by, fd_ring_by, F_ring_by, g_ring_by⟩ := d_ring_by
  obtain ⟨f_check_person, fd_check_person, F_check_person, g_check_person⟩ := d_check_person
  obtain ⟨f_ring_of, fd_ring_of, F_ring_of, g_ring_of⟩ := d_ring_of
  obtain ⟨f_rings_by, fd_rings_by, F_rings_by, g_rings_by⟩ := d_rings_by
  obtain ⟨f_course_of, fd_course_of, F_course_of, g_course_of⟩ := d_course_of
  obtain ⟨f_settled_book, fd_settled_book, F_settled_book, g_settled_book⟩ := d_settled_book
  obtain ⟨f_most_to_pay, fd_most_to_pay, F_most_to_pay, g_most_to_pay⟩ := d_most_to_pay
  obtain ⟨f_least_due, fd_least_due, F_least_due, g_least_due⟩ := d_least_due
  obtain ⟨f_pay_on, fd_pay_on, F_pay_on, g_pay_on⟩ := d_pay_on
  obtain ⟨f_clear_ring, fd_clear_ring, F_clear_ring, g_clear_ring⟩ := d_clear_ring
  obtain ⟨f_is_step, fd_is_step, F_is_step, g_is_step⟩ := d_is_step
  obtain ⟨f_stepped, fd_stepped, F_stepped, g_stepped⟩ := d_stepped
  obtain ⟨f_l_pot, fd_l_pot, F_l_pot, g_l_pot⟩ := d_l_pot
  obtain ⟨f_l_take, fd_l_take, F_l_take, g_l_take⟩ := d_l_take
  obtain ⟨f_l_name, fd_l_name, F_l_name, g_l_name⟩ := d_l_name
  obtain ⟨f_l_names, fd_l_names, F_l_names, g_l_names⟩ := d_l_names
  obtain ⟨f_l_among, fd_l_among, F_l_among, g_l_among⟩ := d_l_among
  obtain ⟨f_l_amount, fd_l_amount, F_l_amount, g_l_amount⟩ := d_l_amount
  obtain ⟨f_l_model, fd_l_model, F_l_model, g_l_model⟩ := d_l_model
  obtain ⟨f_l_parted, fd_l_parted, F_l_parted, g_l_parted⟩ := d_l_parted
  obtain ⟨f_l_left, fd_l_left, F_l_left, g_l_left⟩ := d_l_left
  obtain ⟨f_l_cash, fd_l_cash, F_l_cash, g_l_cash⟩ := d_l_cash
  obtain ⟨f_l_next, fd_l_next, F_l_next, g_l_next⟩ := d_l_next
  obtain ⟨f_l_trail, fd_l_trail, F_l_trail, g_l_trail⟩ := d_l_trail
  obtain ⟨f_l_ring, fd_l_ring, F_l_ring, g_l_ring⟩ := d_l_ring
  obtain ⟨f_l_deeds, fd_l_deeds, F_l_deeds, g_l_deeds⟩ := d_l_deeds
  obtain ⟨f_l_done, fd_l_done, F_l_done, g_l_done⟩ := d_l_done
  obtain ⟨f_l_alike, fd_l_alike, F_l_alike, g_l_alike⟩ := d_l_alike
  obtain ⟨f_l_fall, fd_l_fall, F_l_fall, g_l_fall⟩ := d_l_fall
  obtain ⟨f_l_most, fd_l_most, F_l_most, g_l_most⟩ := d_l_most
  obtain ⟨f_l_least, fd_l_least, F_l_least, g_l_least⟩ := d_l_least
  obtain ⟨f_l_is_settled, fd_l_is_settled, F_l_is_settled, g_l_is_settled⟩ := d_l_is_settled
  obtain ⟨f_l_sweep, fd_l_sweep, F_l_sweep, g_l_sweep⟩ := d_l_sweep
  obtain ⟨f_l_settle, fd_l_settle, F_l_settle, g_l_settle⟩ := d_l_settle
  obtain ⟨f_l_copied, fd_l_copied, F_l_copied, g_l_copied⟩ := d_l_copied
  obtain ⟨f_l_step, fd_l_step, F_l_step, g_l_step⟩ := d_l_step
  obtain ⟨f_l_went, fd_l_went, F_l_went, g_l_went⟩ := d_l_went
  obtain ⟨f_l_deed_drawn, fd_l_deed_drawn, F_l_deed_drawn, g_l_deed_drawn⟩ := d_l_deed_drawn
  obtain ⟨f_l_model_did, fd_l_model_did, F_l_model_did, g_l_model_did⟩ := d_l_model_did
  obtain ⟨f_l_ledger_did, fd_l_ledger_did, F_l_ledger_did, g_l_ledger_did⟩ := d_l_ledger_did
  obtain ⟨f_l_stands, fd_l_stands, F_l_stands, g_l_stands⟩ := d_l_stands
  obtain ⟨f_l_round, fd_l_round, F_l_round, g_l_round⟩ := d_l_round
  obtain ⟨f_law, fd_law, F_law, g_law⟩ := d_law
  obtain ⟨f_init, fd_init, F_init, M_init⟩ := m_init
  obtain ⟨f_with_these, fd_with_these, F_with_these, M_with_these⟩ := m_with_these
  obtain ⟨f_has, fd_has, F_has, M_has⟩ := m_has
  obtain ⟨f_place_of, fd_place_of, F_place_of, M_place_of⟩ := m_place_of
  obtain ⟨f_persons, fd_persons, F_persons, M_persons⟩ := m_persons
  obtain ⟨f_given, fd_given, F_given, M_given⟩ := m_given
  obtain ⟨f_fallen, fd_fallen, F_fallen, M_fallen⟩ := m_fallen
  obtain ⟨f_notes, fd_notes, F_notes, M_notes⟩ := m_notes
  obtain ⟨f_pile, fd_pile, F_pile, M_pile⟩ := m_pile
  obtain ⟨f_fallen_to, fd_fallen_to, F_fallen_to, M_fallen_to⟩ := m_fallen_to
  obtain ⟨f_cash, fd_cash, F_cash, M_cash⟩ := m_cash
  obtain ⟨f_put, fd_put, F_put, M_put⟩ := m_put
  obtain ⟨f_give, fd_give, F_give, M_give⟩ := m_give
  obtain ⟨f_whole_of, fd_whole_of, F_whole_of, M_whole_of⟩ := m_whole_of
  obtain ⟨f_may_fall, fd_may_fall, F_may_fall, M_may_fall⟩ := m_may_fall
  obtain ⟨f_let_fall, fd_let_fall, F_let_fall, M_let_fall⟩ := m_let_fall
  obtain ⟨f_c_init, fd_c_init, F_c_init, M_c_init⟩ := mc_init
  obtain ⟨f_c_dues, fd_c_dues, F_c_dues, M_c_dues⟩ := mc_dues
  obtain ⟨f_c_sink, fd_c_sink, F_c_sink, M_c_sink⟩ := mc_sink
  obtain ⟨f_c_clear_one, fd_c_clear_one, F_c_clear_one, M_c_clear_one⟩ := mc_clear_one
  obtain ⟨f_lg_init, fd_lg_init, F_lg_init, M_lg_init⟩ := ml_init
  obtain ⟨f_lg_note_down, fd_lg_note_down, F_lg_note_down, M_lg_note_down⟩ := ml_note_down
  obtain ⟨f_lg_book, fd_lg_book, F_lg_book, M_lg_book⟩ := ml_book
  obtain ⟨f_lg_log, fd_lg_log, F_lg_log, M_lg_log⟩ := ml_log
  obtain ⟨f_lg_put, fd_lg_put, F_lg_put, M_lg_put⟩ := ml_put
  obtain ⟨f_lg_give, fd_lg_give, F_lg_give, M_lg_give⟩ := ml_give
  obtain ⟨f_lg_step, fd_lg_step, F_lg_step, M_lg_step⟩ := ml_step
  obtain ⟨f_lg_settle, fd_lg_settle, F_lg_settle, M_lg_settle⟩ := ml_settle
  obtain ⟨f_lg_copied, fd_lg_copied, F_lg_copied, M_lg_copied⟩ := ml_copied
  obtain ⟨f_lg_len, fd_lg_len, F_lg_len, M_lg_len⟩ := ml_len
  obtain ⟨f_lg_back, fd_lg_back, F_lg_back, M_lg_back⟩ := mlb
  obtain ⟨f_c_pay_one, fd_c_pay_one, F_c_pay_one, M_c_pay_one, e_c_pay_one⟩ := mcp
  obtain ⟨u_LETTERS, g_LETTERS, t_LETTERS, rfl⟩ := c_LETTERS
  obtain ⟨u_LONGEST, g_LONGEST, t_LONGEST, rfl⟩ := c_LONGEST
  obtain ⟨u_MOST, g_MOST, t_MOST, rfl⟩ := c_MOST
  obtain ⟨u_MOST_PERSONS, g_MOST_PERSONS, t_MOST_PERSONS, rfl⟩ := c_MOST_PERSONS
  obtain ⟨fp_TA, fc_TA, TA, gp_TA, gc_TA⟩ := xTA
  have ep_TA := gp_TA.symm.trans g_pay_on
  cases ep_TA
  have ec_TA := gc_TA.symm.trans g_clear_ring
  cases ec_TA
  have e := hfa.symm.trans g_law
  cases e
  refine law_tab (fd := fd_law) (q := qLam) X hT nT CH (fun s v => ?_) (fun base _ _ TB0 => ?_)
  · obtain ⟨oc, od, kV, doc, pm, an, cdv, ct, osl, rfl, lk, hcd⟩ := F_law.ex
    exact .of_eq rfl
  · have T := TC.T
    have NM : Has l.prog w K mg base 1 "is_name" ["thing"] (spBool K nameD) f_is_name fd_is_name := ⟨ok_name F_is_name B ⟨t_LETTERS, g_LETTERS⟩ ⟨t_LONGEST, g_LONGEST⟩, g_is_name, F_is_name.kp, (bind1 F_is_name fun _ _ _ _ _ _ _ => rfl)⟩
    have WH : Has l.prog w K mg base 1 "is_whole" ["thing"] (spBool K wholeD) f_is_whole fd_is_whole := ⟨ok_whole F_is_whole B, g_is_whole, F_is_whole.kp, (bind1 F_is_whole fun _ _ _ _ _ _ _ => rfl)⟩
    have AMT : Has l.prog w K mg base 2 "is_amount" ["thing"] (spBool K amountD) f_is_amount fd_is_amount := ⟨ok_amount F_is_amount F_is_whole (bind1 F_is_whole fun _ _ _ _ _ _ _ => rfl) g_is_whole B, g_is_amount, F_is_amount.kp, (bind1 F_is_amount fun _ _ _ _ _ _ _ => rfl)⟩
    have CKP : Has l.prog w K mg base 2 "check_persons" ["persons"] (spCheckP K) f_check_persons fd_check_persons := ⟨ok_checkP F_check_persons B B3 ⟨t_MOST_PERSONS, g_MOST_PERSONS⟩ NM, g_check_persons, F_check_persons.kp, (bind1 F_check_persons fun _ _ _ _ _ _ _ => rfl)⟩
    have CKA : Has l.prog w K mg base 3 "check_amount" ["amount"] (spCheckA K) f_check_amount fd_check_amount := ⟨ok_checkA F_check_amount AMT, g_check_amount, F_check_amount.kp, (bind1 F_check_amount fun _ _ _ _ _ _ _ => rfl)⟩
    have CHG : Has l.prog w K mg base 1 "with_changed" ["row", "place", "thing"] (spChg K) f_with_changed fd_with_changed := ⟨ok_chg F_with_changed, g_with_changed, F_with_changed.kp, (bind3 F_with_changed fun _ _ _ _ _ _ _ _ _ => rfl)⟩
    have SPL : Has l.prog w K mg base 1 "split_notes" ["notes", "fallen"] (spSplit K) f_split_notes fd_split_notes := ⟨ok_split F_split_notes B2, g_split_notes, F_split_notes.kp, (bind2 F_split_notes fun _ _ _ _ _ _ _ _ => rfl)⟩
    have GI : FnOk l.prog w K mg base CX0 3 f_init fd_init ["self", "persons"] (spInit K C) := ok_init F_init T B B3 CKP
    have bI : Binds K fd_init ["self", "persons"] [] := (bind2 F_init fun _ _ _ _ _ _ _ _ => rfl)
    have MK : Mk K C f_init := ⟨TC.makes, M_init.at_, M_init.fn, TC.kp⟩
    have WT : HasM l.prog w K mg base C 5 "with_these" ["self", "gifts", "stacks", "drops"] (spWith K C) f_with_these fd_with_these := ⟨ok_with F_with_these T B3 MK TC.g GI bI, M_with_these, (bind4 F_with_these fun _ _ _ _ _ _ _ _ _ _ => rfl)⟩
    have HS : HasM l.prog w K mg base C 2 "has" ["self", "who"] (spHas K C) f_has fd_has := ⟨ok_has F_has T NM, M_has, (bind2 F_has fun _ _ _ _ _ _ _ _ => rfl)⟩
    have PL : HasM l.prog w K mg base C 3 "place_of" ["self", "who"] (spPlace K C) f_place_of fd_place_of := ⟨ok_place F_place_of T HS, M_place_of, (bind2 F_place_of fun _ _ _ _ _ _ _ _ => rfl)⟩
    have PS : HasM l.prog w K mg base C 1 "persons" ["self"] (spPersons K C) f_persons fd_persons := ⟨ok_persons F_persons T B3, M_persons, (bind1 F_persons fun _ _ _ _ _ _ _ => rfl)⟩
    have GV : HasM l.prog w K mg base C 4 "given" ["self", "who"] (spNum K C Bk.gifts) f_given fd_given := ⟨ok_given F_given T PL, M_given, (bind2 F_given fun _ _ _ _ _ _ _ _ => rfl)⟩
    have FL : HasM l.prog w K mg base C 4 "fallen" ["self", "who"] (spNum K C Bk.drops) f_fallen fd_fallen := ⟨ok_fallen F_fallen T PL, M_fallen, (bind2 F_fallen fun _ _ _ _ _ _ _ _ => rfl)⟩
    have NT : HasM l.prog w K mg base C 4 "notes" ["self", "who"] (spRow K C fun l _ => l) f_notes fd_notes := ⟨ok_notes F_notes T B3 PL, M_notes, (bind2 F_notes fun _ _ _ _ _ _ _ _ => rfl)⟩
    have PI : HasM l.prog w K mg base C 5 "pile" ["self", "who"] (spRow K C leftN) f_pile fd_pile := ⟨ok_pile F_pile T SPL NT FL, M_pile, (bind2 F_pile fun _ _ _ _ _ _ _ _ => rfl)⟩
    have FT : HasM l.prog w K mg base C 4 "fallen_to" ["self", "who"] (spCalc K C fun M _ z => fallTo M z) f_fallen_to fd_fallen_to := ⟨ok_fallTo F_fallen_to T B3 PL SPL, M_fallen_to, (bind2 F_fallen_to fun _ _ _ _ _ _ _ _ => rfl)⟩
    have CS : HasM l.prog w K mg base C 5 "cash" ["self", "who"] (spCalc K C cashM) f_cash fd_cash := ⟨ok_cash F_cash T GV FT FL, M_cash, (bind2 F_cash fun _ _ _ _ _ _ _ _ => rfl)⟩
    have PU : HasM l.prog w K mg base C 6 "put" ["self", "who", "to", "amount"] (spPut K C) f_put fd_put := ⟨ok_put F_put T B B3 ⟨t_MOST, g_MOST⟩ PL CKA CHG WT, M_put, (bind4 F_put fun _ _ _ _ _ _ _ _ _ _ => rfl)⟩
    have GE : HasM l.prog w K mg base C 6 "give" ["self", "who", "amount"] (spGive K C) f_give fd_give := ⟨ok_give F_give T PL CKA CHG WT, M_give, (bind3 F_give fun _ _ _ _ _ _ _ _ _ => rfl)⟩
    have WO : HasM l.prog w K mg base C 5 "whole_of" ["self", "who"] (spCalc K C fun M j _ => wholeN (M.stacks.getD j [])) f_whole_of fd_whole_of := ⟨ok_whOf F_whole_of T B3 NT, M_whole_of, (bind2 F_whole_of fun _ _ _ _ _ _ _ _ => rfl)⟩
    have MF : HasM l.prog w K mg base C 6 "may_fall" ["self", "more"] (spMayF K C) f_may_fall fd_may_fall := ⟨ok_mayF F_may_fall T B B3 HS WH FL WO, M_may_fall, (bind2 F_may_fall fun _ _ _ _ _ _ _ _ => rfl)⟩
    have LF : HasM l.prog w K mg base C 7 "let_fall" ["self", "more"] (spLetF K C) f_let_fall fd_let_fall := ⟨ok_letF F_let_fall T B3 MF FL WT CS, M_let_fall, (bind2 F_let_fall fun _ _ _ _ _ _ _ _ => rfl)⟩
    have DU : Has l.prog w K mg base 6 "due_of" ["book", "who"] (spDue K C) f_due_of fd_due_of := ⟨ok_due F_due_of T B PI, g_due_of, F_due_of.kp, (bind2 F_due_of fun _ _ _ _ _ _ _ _ => rfl)⟩
    have AD : Has l.prog w K mg base 7 "all_dues" ["book"] (spDues K C) f_all_dues fd_all_dues := ⟨ok_dues F_all_dues T PS DU, g_all_dues, F_all_dues.kp, (bind1 F_all_dues fun _ _ _ _ _ _ _ => rfl)⟩
    have TB : Has l.prog w K mg base 1 "trail_by" ["dues", "who"] (spTrB K) f_trail_by fd_trail_by := ⟨ok_trB F_trail_by, g_trail_by, F_trail_by.kp, (bind2 F_trail_by fun _ _ _ _ _ _ _ _ => rfl)⟩
    have RB : Has l.prog w K mg base 2 "ring_by" ["dues", "who"] (spRgB K) f_ring_by fd_ring_by := ⟨ok_rgB F_ring_by TB, g_ring_by, F_ring_by.kp, (bind2 F_ring_by fun _ _ _ _ _ _ _ _ => rfl)⟩
    have CKW : Has l.prog w K mg base 3 "check_person" ["book", "who"] (spCkP K C) f_check_person fd_check_person := ⟨ok_ckP F_check_person T HS, g_check_person, F_check_person.kp, (bind2 F_check_person fun _ _ _ _ _ _ _ _ => rfl)⟩
    have RO : Has l.prog w K mg base 8 "ring_of" ["book", "who"] (spRgO K C) f_ring_of fd_ring_of := ⟨ok_rgO F_ring_of CKW RB AD, g_ring_of, F_ring_of.kp, (bind2 F_ring_of fun _ _ _ _ _ _ _ _ => rfl)⟩
    have TK : HasTake l.prog w K mg base f_l_take fd_l_take := ⟨ok_take F_l_take B2, g_l_take, F_l_take.kp, (bind2 F_l_take fun _ _ _ _ _ _ _ _ => rfl)⟩
    have AM : HasAmong l.prog w K mg base f_l_among fd_l_among := ⟨ok_among F_l_among B TK, g_l_among, F_l_among.kp, (bind2 F_l_among fun _ _ _ _ _ _ _ _ => rfl)⟩
    have LP : Has l.prog w K mg base 3 "_law_pot" ["_law_script", "_law_k"] (spPot K) f_l_pot fd_l_pot := ⟨ok_pot F_l_pot B B2, g_l_pot, F_l_pot.kp, (bind2 F_l_pot fun _ _ _ _ _ _ _ _ => rfl)⟩
    have LNM : Has l.prog w K mg base 2 "_law_name" ["_law_pot_here", "_law_used"] spLNm f_l_name fd_l_name := ⟨ok_lnm F_l_name B B2 TK, g_l_name, F_l_name.kp, (bind2 F_l_name fun _ _ _ _ _ _ _ _ => rfl)⟩
    have LNS : Has l.prog w K mg base 3 "_law_names" ["_law_pot_here", "_law_many"] spLNms f_l_names fd_l_names := ⟨ok_lnms F_l_names B2 LNM, g_l_names, F_l_names.kp, (bind2 F_l_names fun _ _ _ _ _ _ _ _ => rfl)⟩
    have LAM : Has l.prog w K mg base 2 "_law_amount" ["_law_pot_here", "_law_size"] spLAm f_l_amount fd_l_amount := ⟨ok_lam F_l_amount TK, g_l_amount, F_l_amount.kp, (bind2 F_l_amount fun _ _ _ _ _ _ _ _ => rfl)⟩
    have LMD : Has l.prog w K mg base 1 "_law_model" ["_law_names_here"] (spLMd K) f_l_model fd_l_model := ⟨ok_lmd F_l_model B3, g_l_model, F_l_model.kp, (bind1 F_l_model fun _ _ _ _ _ _ _ => rfl)⟩
    have LPT : Has l.prog w K mg base 1 "_law_parted" ["_law_model_here", "_law_who"] (spLPt K) f_l_parted fd_l_parted := ⟨ok_lpt F_l_parted B B2, g_l_parted, F_l_parted.kp, (bind2 F_l_parted fun _ _ _ _ _ _ _ _ => rfl)⟩
    have LLF : Has l.prog w K mg base 2 "_law_left" ["_law_model_here", "_law_who"] (spLLf K) f_l_left fd_l_left := ⟨ok_llf F_l_left LPT, g_l_left, F_l_left.kp, (bind2 F_l_left fun _ _ _ _ _ _ _ _ => rfl)⟩
    have LNX : Has l.prog w K mg base 3 "_law_next" ["_law_model_here", "_law_who"] (spLNx K) f_l_next fd_l_next := ⟨ok_lnx F_l_next LLF, g_l_next, F_l_next.kp, (bind2 F_l_next fun _ _ _ _ _ _ _ _ => rfl)⟩
    have LTR : Has l.prog w K mg base 4 "_law_trail" ["_law_model_here", "_law_who"] (spLTr K) f_l_trail fd_l_trail := ⟨ok_ltr F_l_trail LNX, g_l_trail, F_l_trail.kp, (bind2 F_l_trail fun _ _ _ _ _ _ _ _ => rfl)⟩
    have LRG : Has l.prog w K mg base 5 "_law_ring" ["_law_model_here", "_law_who"] (spLRg K) f_l_ring fd_l_ring := ⟨ok_lrg F_l_ring B2 LNX LTR, g_l_ring, F_l_ring.kp, (bind2 F_l_ring fun _ _ _ _ _ _ _ _ => rfl)⟩
    have MTP : Has l.prog w K mg base 7 "most_to_pay" ["book", "who"] (spCalc K C mostP) f_most_to_pay fd_most_to_pay := ⟨ok_mtP F_most_to_pay T B2 DU CS, g_most_to_pay, F_most_to_pay.kp, (bind2 F_most_to_pay fun _ _ _ _ _ _ _ _ => rfl)⟩
    have PYO : Has l.prog w K mg base 8 "pay_on" ["book", "who", "amount"] (spPayO K C) f_pay_on fd_pay_on := ⟨ok_payO F_pay_on T MTP CKA LF, g_pay_on, F_pay_on.kp, (bind3 F_pay_on fun _ _ _ _ _ _ _ _ _ => rfl)⟩
    have LED : Has l.prog w K mg base 7 "least_due" ["book", "ring"] (spLeD K C) f_least_due fd_least_due := ⟨ok_leD F_least_due B2 DU, g_least_due, F_least_due.kp, (bind2 F_least_due fun _ _ _ _ _ _ _ _ => rfl)⟩
    have CLR : Has l.prog w K mg base 9 "clear_ring" ["book", "who", "amount"] (spClR K C) f_clear_ring fd_clear_ring := ⟨ok_clR F_clear_ring T RO CKA LED LF, g_clear_ring, F_clear_ring.kp, (bind3 F_clear_ring fun _ _ _ _ _ _ _ _ _ => rfl)⟩
    have ISS : Has l.prog w K mg base 1 "is_step" ["thing"] (spIsS K) f_is_step fd_is_step := ⟨ok_isS F_is_step B B3 TA, g_is_step, F_is_step.kp, (bind1 F_is_step fun _ _ _ _ _ _ _ => rfl)⟩
    have STC : Has l.prog w K mg base 10 "stepped" ["book", "step"] (spSt K C) f_stepped fd_stepped := ⟨fnOr (FnOk.mono (ok_stP F_stepped TA ISS PYO) (show 9 ≤ 10 by decide)) (ok_stC F_stepped TA ISS CLR), g_stepped, F_stepped.kp, (bind2 F_stepped fun _ _ _ _ _ _ _ _ => rfl)⟩
    have LCS : Has l.prog w K mg base 2 "_law_cash" ["_law_model_here", "_law_who"] (spLCs K) f_l_cash fd_l_cash := ⟨ok_lcs F_l_cash B3 LPT, g_l_cash, F_l_cash.kp, (bind2 F_l_cash fun _ _ _ _ _ _ _ _ => rfl)⟩
    have LDS : Has l.prog w K mg base 3 "_law_deeds" ["_law_pot_here", "_law_names_here", "_law_many", "_law_size"] (spLDs K) f_l_deeds fd_l_deeds := ⟨ok_lds F_l_deeds B2 TK AM LAM, g_l_deeds, F_l_deeds.kp, (bind4 F_l_deeds fun _ _ _ _ _ _ _ _ _ _ => rfl)⟩
    have LDN : Has l.prog w K mg base 1 "_law_done" ["_law_model_here", "_law_deed"] (spLDn K) f_l_done fd_l_done := ⟨ok_ldn F_l_done, g_l_done, F_l_done.kp, (bind2 F_l_done fun _ _ _ _ _ _ _ _ => rfl)⟩
    have LAL : HasG l.prog w K mg base 6 "_law_alike" ["_law_model_here", "_law_book"] (spLAl K C) f_l_alike fd_l_alike := ⟨ok_lal F_l_alike T B2 PS GV FL CS NT PI LCS LLF, g_l_alike, F_l_alike.kp, (bind2 F_l_alike fun _ _ _ _ _ _ _ _ => rfl)⟩
    have LFL : Has l.prog w K mg base 1 "_law_fall" ["_law_model_here", "_law_who", "_law_amount_here"] (spLFl K) f_l_fall fd_l_fall := ⟨ok_lfl F_l_fall, g_l_fall, F_l_fall.kp, (bind3 F_l_fall fun _ _ _ _ _ _ _ _ _ => rfl)⟩
    have LMO : Has l.prog w K mg base 3 "_law_most" ["_law_model_here", "_law_who"] (spLMo K) f_l_most fd_l_most := ⟨ok_lmo F_l_most B2 LLF LCS, g_l_most, F_l_most.kp, (bind2 F_l_most fun _ _ _ _ _ _ _ _ => rfl)⟩
    have LLS : Has l.prog w K mg base 3 "_law_least" ["_law_model_here", "_law_ring_here"] (spLLs K) f_l_least fd_l_least := ⟨ok_lls F_l_least B2 LLF, g_l_least, F_l_least.kp, (bind2 F_l_least fun _ _ _ _ _ _ _ _ => rfl)⟩
    have LSE : Has l.prog w K mg base 6 "_law_is_settled" ["_law_model_here"] (spLSe K) f_l_is_settled fd_l_is_settled := ⟨ok_lse F_l_is_settled LMO LRG, g_l_is_settled, F_l_is_settled.kp, (bind1 F_l_is_settled fun _ _ _ _ _ _ _ => rfl)⟩
    have LSW : Has l.prog w K mg base 6 "_law_sweep" ["_law_model_here"] (spLSw K) f_l_sweep fd_l_sweep := ⟨ok_lsw F_l_sweep LMO LRG LFL LLS, g_l_sweep, F_l_sweep.kp, (bind1 F_l_sweep fun _ _ _ _ _ _ _ => rfl)⟩
    have LST : Has l.prog w K mg base 7 "_law_settle" ["_law_model_here"] (spLSt K) f_l_settle fd_l_settle := ⟨ok_lst F_l_settle B B2 B3 LSE LSW, g_l_settle, F_l_settle.kp, (bind1 F_l_settle fun _ _ _ _ _ _ _ => rfl)⟩
    have LCP : Has l.prog w K mg base 2 "_law_copied" ["_law_model_here"] (spLCp K) f_l_copied fd_l_copied := ⟨ok_lcp F_l_copied B3 LMD, g_l_copied, F_l_copied.kp, (bind1 F_l_copied fun _ _ _ _ _ _ _ => rfl)⟩
    have LSP : Has l.prog w K mg base 6 "_law_step" ["_law_pot_here", "_law_model_here"] (spLSp K) f_l_step fd_l_step := ⟨ok_lsp F_l_step B2 TK AM LRG LLS LMO, g_l_step, F_l_step.kp, (bind2 F_l_step fun _ _ _ _ _ _ _ _ => rfl)⟩
    have LWN : Has l.prog w K mg base 6 "_law_went" ["_law_model_here", "_law_step_here"] (spLWn K) f_l_went fd_l_went := ⟨ok_lwn F_l_went LRG LFL, g_l_went, F_l_went.kp, (bind2 F_l_went fun _ _ _ _ _ _ _ _ => rfl)⟩
    have GIC : FnOk l.prog w K mg base CX0 6 f_c_init fd_c_init ["self", "book"] (spCIn K C CC) := ok_cIn F_c_init T TCC.T PS PI CS
    have bIC : Binds K fd_c_init ["self", "book"] [] := (bind2 F_c_init fun _ _ _ _ _ _ _ _ => rfl)
    have MKC : Mk K CC f_c_init := ⟨TCC.makes, M_c_init.at_, M_c_init.fn, TCC.kp⟩
    have RGS : Has l.prog w K mg base 3 "rings_by" ["dues"] (spRgS K) f_rings_by fd_rings_by := ⟨ok_rgS F_rings_by RB, g_rings_by, F_rings_by.kp, (bind1 F_rings_by fun _ _ _ _ _ _ _ => rfl)⟩
    have CDU : HasM l.prog w K mg base CC 1 "dues" ["self"] (spCDu K CC) f_c_dues fd_c_dues := ⟨ok_cDu F_c_dues TCC.T B, M_c_dues, (bind1 F_c_dues fun _ _ _ _ _ _ _ => rfl)⟩
    have CSK : HasM l.prog w K mg base CC 1 "sink" ["self", "who", "amount"] (spSink K CC) f_c_sink fd_c_sink := ⟨ok_sink F_c_sink TCC.T, M_c_sink, (bind3 F_c_sink fun _ _ _ _ _ _ _ _ _ => rfl)⟩
    have CCL : HasM l.prog w K mg base CC 4 "clear_one" ["self", "dues"] (spCl1 K CC) f_c_clear_one fd_c_clear_one := ⟨ok_cl1 F_c_clear_one TCC.T B B2 RGS CSK, M_c_clear_one, (bind2 F_c_clear_one fun _ _ _ _ _ _ _ _ => rfl)⟩
    have CPY : HasM l.prog w K mg base CC 4 "pay_one" ["self", "dues"] (spPy1 K CC [(PT, qLam)]) f_c_pay_one fd_c_pay_one := ⟨ok_py1 F_c_pay_one e_c_pay_one TB0 List.mem_cons_self (fun p hp _ => by rw [List.mem_singleton.mp hp]) TCC.T B B2 TB CSK, M_c_pay_one, (bind2 F_c_pay_one fun _ _ _ _ _ _ _ _ => rfl)⟩
    have COF : Has l.prog w K mg base 8 "course_of" ["book"] (spCof K C CC [(PT, qLam)]) f_course_of fd_course_of := ⟨ok_cof F_course_of TCC.T MKC TCC.g GIC bIC CDU CCL CPY, g_course_of, F_course_of.kp, (bind1 F_course_of fun _ _ _ _ _ _ _ => rfl)⟩
    have SET : Has l.prog w K mg base 9 "settled_book" ["book"] (spSet K C [(PT, qLam)]) f_settled_book fd_settled_book := ⟨ok_set F_settled_book T TCC.T LF COF, g_settled_book, F_settled_book.kp, (bind1 F_settled_book fun _ _ _ _ _ _ _ => rfl)⟩
    have TL := TLC.T
    have GIL : FnOk l.prog w K mg base CX0 5 f_lg_init fd_lg_init ["self", "persons"] (spLgI K C CL) := ok_lgI F_lg_init TL MK TC.g GI bI
    have bIL : Binds K fd_lg_init ["self", "persons"] [] := (bind2 F_lg_init fun _ _ _ _ _ _ _ _ => rfl)
    have MKL : Mk K CL f_lg_init := ⟨TLC.makes, M_lg_init.at_, M_lg_init.fn, TLC.kp⟩
    have GND : HasM l.prog w K mg base CL 1 "note_down" ["self", "book", "deed"] (spLnd K C CL) f_lg_note_down fd_lg_note_down := ⟨ok_lnd F_lg_note_down TL, M_lg_note_down, (bind3 F_lg_note_down fun _ _ _ _ _ _ _ _ _ => rfl)⟩
    have GBO : HasM l.prog w K mg base CL 1 "book" ["self"] (spLgBk K C CL) f_lg_book fd_lg_book := ⟨ok_lgbk F_lg_book TL, M_lg_book, (bind1 F_lg_book fun _ _ _ _ _ _ _ => rfl)⟩
    have GLG : HasM l.prog w K mg base CL 1 "log" ["self"] (spLgLog K C CL) f_lg_log fd_lg_log := ⟨ok_lglog F_lg_log TL B3, M_lg_log, (bind1 F_lg_log fun _ _ _ _ _ _ _ => rfl)⟩
    have GPU : HasM l.prog w K mg base CL 7 "put" ["self", "who", "to", "amount"] (spLgP K C CL) f_lg_put fd_lg_put := ⟨ok_lgP F_lg_put T TL GND GBO PU, M_lg_put, (bind4 F_lg_put fun _ _ _ _ _ _ _ _ _ _ => rfl)⟩
    have GGV : HasM l.prog w K mg base CL 7 "give" ["self", "who", "amount"] (spLgG K C CL) f_lg_give fd_lg_give := ⟨ok_lgG F_lg_give T TL GND GBO GE, M_lg_give, (bind3 F_lg_give fun _ _ _ _ _ _ _ _ _ => rfl)⟩
    have GST : HasM l.prog w K mg base CL 11 "step" ["self", "step"] (spLgS K C CL) f_lg_step fd_lg_step := ⟨ok_lgS F_lg_step TL GND GBO STC, M_lg_step, (bind2 F_lg_step fun _ _ _ _ _ _ _ _ => rfl)⟩
    have GSE : HasM l.prog w K mg base CL 10 "settle" ["self"] (spLgE K C CL [(PT, qLam)]) f_lg_settle fd_lg_settle := ⟨ok_lgE F_lg_settle TL GND GBO SET, M_lg_settle, (bind1 F_lg_settle fun _ _ _ _ _ _ _ => rfl)⟩
    have GCO : HasM l.prog w K mg base CL 7 "copied" ["self"] (spLgC K C CL) f_lg_copied fd_lg_copied := ⟨ok_lgC F_lg_copied T TL B3 GBO PS MKL TLC.g GIL bIL, M_lg_copied, (bind1 F_lg_copied fun _ _ _ _ _ _ _ => rfl)⟩
    have GLN : HasM l.prog w K mg base CL 1 "__len__" ["self"] (spLgL K C CL) f_lg_len fd_lg_len := ⟨ok_lgL F_lg_len TL B, M_lg_len, (bind1 F_lg_len fun _ _ _ _ _ _ _ => rfl)⟩
    have GBA : HasM l.prog w K mg base CL 2 "back" ["self", "many"] (spLgBa K C CL) f_lg_back fd_lg_back := ⟨ok_lgBa F_lg_back TL B WH, M_lg_back, backB2 F_lg_back⟩
    have LDD : Has l.prog w K mg base 7 "_law_deed_drawn" ["_law_pot_here", "_law_model_here", "_law_size"] (spLDd K) f_l_deed_drawn fd_l_deed_drawn := ⟨ok_ldd F_l_deed_drawn TK LSP LDS, g_l_deed_drawn, F_l_deed_drawn.kp, (bind3 F_l_deed_drawn fun _ _ _ _ _ _ _ _ _ => rfl)⟩
    have LMDD : Has l.prog w K mg base 8 "_law_model_did" ["_law_model_here", "_law_deed"] (spLMdd K) f_l_model_did fd_l_model_did := ⟨ok_lmdd F_l_model_did LST LWN LDN, g_l_model_did, F_l_model_did.kp, (bind2 F_l_model_did fun _ _ _ _ _ _ _ _ => rfl)⟩
    have LLD : Has l.prog w K mg base 12 "_law_ledger_did" ["_law_ledger", "_law_deed"] (spLLd K C CL [(PT, qLam)]) f_l_ledger_did fd_l_ledger_did := ⟨ok_lld F_l_ledger_did TL GSE GPU GGV GST, g_l_ledger_did, F_l_ledger_did.kp, (bind2 F_l_ledger_did fun _ _ _ _ _ _ _ _ => rfl)⟩
    have LSD : HasG l.prog w K mg base 7 "_law_stands" ["_law_ledger", "_law_model_here", "_law_deeds_here"] (spLSd K C CL) f_l_stands fd_l_stands := ⟨ok_lsd F_l_stands TL B B2 GLG GLN GBO LAL, g_l_stands, F_l_stands.kp, (bind3 F_l_stands fun _ _ _ _ _ _ _ _ _ => rfl)⟩
    have LRN : Has l.prog w K mg base 13 "_law_round" ["_law_pot_here", "_law_all_of_them"] (spLRn K C CL [(PT, qLam)]) f_l_round fd_l_round := ⟨ok_lrn F_l_round TL B B2 B3 TK GCO GBA LCP LDD LLD LMDD, g_l_round, F_l_round.kp, (bind2 F_l_round fun _ _ _ _ _ _ _ _ => rfl)⟩
    exact ok_law F_law B B2 TL LP TK LNS LMD LRN GLG LSD MKL TLC.g GIL bIL
end Rc

open PySem PySem.W PyProof.Rows
set_option maxHeartbeats 0 in
theorem PySem.Challenge.cw_ringclear_k95_copies_holds : PySem.Challenge.rw_ringclear_k95_copies.Holds := by
  w_on; o_law
  refine HandSHeadRun.head_any (r := PySem.W.OpenLaw.row PySem.Challenge.rw_ringclear_k95_copies) (q := Rc.qv) (H := PySem.W.kmHook Rc.hdA.heap_39 Rc.asK Rc.eK Rc.tsK) (ob := Rc.obK Rc.asK Rc.tsK) (M := 20000) (loose := Rc.looseN) (kwd := []) (d := Rc.dL) Rc.obK_ok Rc.hx1 Rc.hx2 ?hrun Rc.hx3 Rc.hx4 Rc.hx5 Rc.hx6 ?hsaid Rc.hx7 Rc.hx8 ?hw ?hc
  (case hrun => exact fun w => PySem.W.byRow2 "special-get-raises" (P := HandSHeadRun.RunEq _ _ _ _ _ _) Rc.run1 Rc.run2 w)
  (case hsaid => assumption)
  (case hw => w_witness2)
  k_fill
  refine Rc.walk_ofGT (l := PySem.Challenge.rw_ringclear_k95_copies) (n := 63) (k := 14) (x := "_law_script") (CX := fun _ => L2.CX0) rfl (by decide) Rc.dL_defs ⟨rfl, by decide, by decide⟩ (fun w h Y => PySem.W.km_in_of Y) ?F (fun _ _ _ _ _ h => h)
  case F =>
    intro w mg fa h Y KX G hmg
    rw [Rc.dL_name] at hmg
    have hT := PySem.W.km_tabs_of Y _ List.mem_cons_self
    refine' Rc.all_mk KX hmg hT ?nT ?TC ?TCC ?TLC ?d_is_name ?d_is_whole ?d_is_amount ?d_check_persons ?d_check_amount ?d_split_notes ?d_with_changed ?d_due_of ?d_all_dues ?d_trail_by ?d_ring_by ?d_check_person ?d_ring_of ?d_rings_by ?d_course_of ?d_settled_book ?d_most_to_pay ?d_least_due ?d_pay_on ?d_clear_ring ?d_is_step ?d_stepped ?d_l_pot ?d_l_take ?d_l_name ?d_l_names ?d_l_among ?d_l_amount ?d_l_model ?d_l_parted ?d_l_left ?d_l_cash ?d_l_next ?d_l_trail ?d_l_ring ?d_l_deeds ?d_l_done ?d_l_alike ?d_l_fall ?d_l_most ?d_l_least ?d_l_is_settled ?d_l_sweep ?d_l_settle ?d_l_copied ?d_l_step ?d_l_went ?d_l_deed_drawn ?d_l_model_did ?d_l_ledger_did ?d_l_stands ?d_l_round ?d_law ?m_init ?m_with_these ?m_has ?m_place_of ?m_persons ?m_given ?m_fallen ?m_notes ?m_pile ?m_fallen_to ?m_cash ?m_put ?m_give ?m_whole_of ?m_may_fall ?m_let_fall ?mc_init ?mc_dues ?mc_sink ?mc_clear_one ?ml_init ?ml_note_down ?ml_book ?ml_log ?ml_put ?ml_give ?ml_step ?ml_settle ?ml_copied ?ml_len ?mlb ?mcp ?CH ?c_LETTERS ?c_LONGEST ?c_MOST ?c_MOST_PERSONS ?B ?B2 ?B3 ?xTA
    case TC => (refine' Rc.mkTop KX G ?tcA ?tcPg ?tcHd ?tcPo ?tcSa ?tcMk ?tcKc ?tcN1 ?tcN2 ?tcN3 ?tcN4; (case tcA => k_is); (case tcPg => k_is); (case tcHd => k_is); (case tcPo => k_is); (case tcSa => k_is); (case tcMk => k_is); (case tcKc => k_is); (case tcN1 => k_is); (case tcN2 => k_is); (case tcN3 => k_is); (case tcN4 => k_is))
    case TCC => (refine' Rc.mkTopC KX G ?tccA ?tccPg ?tccHd ?tccPo ?tccSa ?tccMk ?tccKc ?tccN1 ?tccN2 ?tccN3 ?tccN4; (case tccA => k_is); (case tccPg => k_is); (case tccHd => k_is); (case tccPo => k_is); (case tccSa => k_is); (case tccMk => k_is); (case tccKc => k_is); (case tccN1 => k_is); (case tccN2 => k_is); (case tccN3 => k_is); (case tccN4 => k_is))
    case mc_init => (refine' Rc.mkMeth ?a_mc_init ?i_mc_init ?l_mc_init ?c_mc_init ?k_mc_init; (case a_mc_init => k_is); (case i_mc_init => k_is); (case l_mc_init => k_is); (case c_mc_init => k_is); (case k_mc_init => k_is))
    case mc_dues => (refine' Rc.mkMeth ?a_mc_dues ?i_mc_dues ?l_mc_dues ?c_mc_dues ?k_mc_dues; (case a_mc_dues => k_is); (case i_mc_dues => k_is); (case l_mc_dues => k_is); (case c_mc_dues => k_is); (case k_mc_dues => k_is))
    case mc_sink => (refine' Rc.mkMeth ?a_mc_sink ?i_mc_sink ?l_mc_sink ?c_mc_sink ?k_mc_sink; (case a_mc_sink => k_is); (case i_mc_sink => k_is); (case l_mc_sink => k_is); (case c_mc_sink => k_is); (case k_mc_sink => k_is))
    case mc_clear_one => (refine' Rc.mkMeth ?a_mc_clear_one ?i_mc_clear_one ?l_mc_clear_one ?c_mc_clear_one ?k_mc_clear_one; (case a_mc_clear_one => k_is); (case i_mc_clear_one => k_is); (case l_mc_clear_one => k_is); (case c_mc_clear_one => k_is); (case k_mc_clear_one => k_is))
    case TLC => (refine' Rc.mkTopL KX G ?tlcA ?tlcPg ?tlcHd ?tlcPo ?tlcSa ?tlcMk ?tlcKc ?tlcN1 ?tlcN2; (case tlcA => k_is); (case tlcPg => k_is); (case tlcHd => k_is); (case tlcPo => k_is); (case tlcSa => k_is); (case tlcMk => k_is); (case tlcKc => k_is); (case tlcN1 => k_is); (case tlcN2 => k_is))
    case ml_init => (refine' Rc.mkMeth ?a_ml_init ?i_ml_init ?l_ml_init ?c_ml_init ?k_ml_init; (case a_ml_init => k_is); (case i_ml_init => k_is); (case l_ml_init => k_is); (case c_ml_init => k_is); (case k_ml_init => k_is))
    case ml_note_down => (refine' Rc.mkMeth ?a_ml_note_down ?i_ml_note_down ?l_ml_note_down ?c_ml_note_down ?k_ml_note_down; (case a_ml_note_down => k_is); (case i_ml_note_down => k_is); (case l_ml_note_down => k_is); (case c_ml_note_down => k_is); (case k_ml_note_down => k_is))
    case ml_book => (refine' Rc.mkMeth ?a_ml_book ?i_ml_book ?l_ml_book ?c_ml_book ?k_ml_book; (case a_ml_book => k_is); (case i_ml_book => k_is); (case l_ml_book => k_is); (case c_ml_book => k_is); (case k_ml_book => k_is))
    case ml_log => (refine' Rc.mkMeth ?a_ml_log ?i_ml_log ?l_ml_log ?c_ml_log ?k_ml_log; (case a_ml_log => k_is); (case i_ml_log => k_is); (case l_ml_log => k_is); (case c_ml_log => k_is); (case k_ml_log => k_is))
    case ml_put => (refine' Rc.mkMeth ?a_ml_put ?i_ml_put ?l_ml_put ?c_ml_put ?k_ml_put; (case a_ml_put => k_is); (case i_ml_put => k_is); (case l_ml_put => k_is); (case c_ml_put => k_is); (case k_ml_put => k_is))
    case ml_give => (refine' Rc.mkMeth ?a_ml_give ?i_ml_give ?l_ml_give ?c_ml_give ?k_ml_give; (case a_ml_give => k_is); (case i_ml_give => k_is); (case l_ml_give => k_is); (case c_ml_give => k_is); (case k_ml_give => k_is))
    case ml_step => (refine' Rc.mkMeth ?a_ml_step ?i_ml_step ?l_ml_step ?c_ml_step ?k_ml_step; (case a_ml_step => k_is); (case i_ml_step => k_is); (case l_ml_step => k_is); (case c_ml_step => k_is); (case k_ml_step => k_is))
    case ml_settle => (refine' Rc.mkMeth ?a_ml_settle ?i_ml_settle ?l_ml_settle ?c_ml_settle ?k_ml_settle; (case a_ml_settle => k_is); (case i_ml_settle => k_is); (case l_ml_settle => k_is); (case c_ml_settle => k_is); (case k_ml_settle => k_is))
    case ml_copied => (refine' Rc.mkMeth ?a_ml_copied ?i_ml_copied ?l_ml_copied ?c_ml_copied ?k_ml_copied; (case a_ml_copied => k_is); (case i_ml_copied => k_is); (case l_ml_copied => k_is); (case c_ml_copied => k_is); (case k_ml_copied => k_is))
    case ml_len => (refine' Rc.mkMeth ?a_ml_len ?i_ml_len ?l_ml_len ?c_ml_len ?k_ml_len; (case a_ml_len => k_is); (case i_ml_len => k_is); (case l_ml_len => k_is); (case c_ml_len => k_is); (case k_ml_len => k_is))
    case mlb => (refine' Rc.mkMethD ?a_mlb ?i_mlb ?l_mlb ?c_mlb ?k_mlb ?t_mlb ?t2_mlb ?r_mlb; (case a_mlb => k_is); (case i_mlb => k_is); (case l_mlb => k_is); (case c_mlb => k_is); (case k_mlb => k_is); (case t_mlb => k_is); (case t2_mlb => exact rfl); (case r_mlb => exact ⟨_, rfl⟩))
    case mcp => (refine' Rc.mkMethC ?a_mcp ?i_mcp ?l_mcp ?c_mcp ?k_mcp; (case a_mcp => k_is); (case i_mcp => k_is); (case l_mcp => k_is); (case c_mcp => k_is); (case k_mcp => k_is))
    case CH => kernel_rfl
    case nT => kernel_rfl
    case c_LETTERS => (refine' Rc.con_of KX G ?ca_LETTERS ?cr_LETTERS; (case ca_LETTERS => k_is); (case cr_LETTERS => exact ⟨_, rfl⟩))
    case c_LONGEST => (refine' Rc.con_of KX G ?ca_LONGEST ?cr_LONGEST; (case ca_LONGEST => k_is); (case cr_LONGEST => exact ⟨_, rfl⟩))
    case c_MOST => (refine' Rc.con_of KX G ?ca_MOST ?cr_MOST; (case ca_MOST => k_is); (case cr_MOST => exact ⟨_, rfl⟩))
    case c_MOST_PERSONS => (refine' Rc.con_of KX G ?ca_MOST_PERSONS ?cr_MOST_PERSONS; (case ca_MOST_PERSONS => k_is); (case cr_MOST_PERSONS => exact ⟨_, rfl⟩))
    case B => (refine' ⟨PySem.W.mg_none_of KX G ?Bz0, PySem.W.mg_none_of KX G ?Bz1, PySem.W.mg_none_of KX G ?Bz2, PySem.W.mg_none_of KX G ?Bz3, PySem.W.mg_none_of KX G ?Bz4, PySem.W.mg_none_of KX G ?Bz5⟩; (case Bz0 => k_is); (case Bz1 => k_is); (case Bz2 => k_is); (case Bz3 => k_is); (case Bz4 => k_is); (case Bz5 => k_is))
    case B2 => (refine' ⟨PySem.W.mg_none_of KX G ?B2z0, PySem.W.mg_none_of KX G ?B2z1, PySem.W.mg_none_of KX G ?B2z2, PySem.W.mg_none_of KX G ?B2z3, PySem.W.mg_none_of KX G ?B2z4, PySem.W.mg_none_of KX G ?B2z5⟩; (case B2z0 => k_is); (case B2z1 => k_is); (case B2z2 => k_is); (case B2z3 => k_is); (case B2z4 => k_is); (case B2z5 => k_is))
    case B3 => (refine' ⟨PySem.W.mg_none_of KX G ?B3z0, PySem.W.mg_none_of KX G ?B3z1, PySem.W.mg_none_of KX G ?B3z2, PySem.W.mg_none_of KX G ?B3z3, PySem.W.mg_none_of KX G ?B3z4, PySem.W.mg_none_of KX G ?B3z5⟩; (case B3z0 => k_is); (case B3z1 => k_is); (case B3z2 => k_is); (case B3z3 => k_is); (case B3z4 => k_is); (case B3z5 => k_is))
    case d_is_name => (refine' Rc.mkDef KX G ?a_d_is_name ?l_d_is_name ?c_d_is_name ?k_d_is_name; (case a_d_is_name => k_is); (case l_d_is_name => k_is); (case c_d_is_name => k_is); (case k_d_is_name => k_is))
    case d_is_whole => (refine' Rc.mkDef KX G ?a_d_is_whole ?l_d_is_whole ?c_d_is_whole ?k_d_is_whole; (case a_d_is_whole => k_is); (case l_d_is_whole => k_is); (case c_d_is_whole => k_is); (case k_d_is_whole => k_is))
    case d_is_amount => (refine' Rc.mkDef KX G ?a_d_is_amount ?l_d_is_amount ?c_d_is_amount ?k_d_is_amount; (case a_d_is_amount => k_is); (case l_d_is_amount => k_is); (case c_d_is_amount => k_is); (case k_d_is_amount => k_is))
    case d_check_persons => (refine' Rc.mkDef KX G ?a_d_check_persons ?l_d_check_persons ?c_d_check_persons ?k_d_check_persons; (case a_d_check_persons => k_is); (case l_d_check_persons => k_is); (case c_d_check_persons => k_is); (case k_d_check_persons => k_is))
    case d_check_amount => (refine' Rc.mkDef KX G ?a_d_check_amount ?l_d_check_amount ?c_d_check_amount ?k_d_check_amount; (case a_d_check_amount => k_is); (case l_d_check_amount => k_is); (case c_d_check_amount => k_is); (case k_d_check_amount => k_is))
    case d_split_notes => (refine' Rc.mkDef KX G ?a_d_split_notes ?l_d_split_notes ?c_d_split_notes ?k_d_split_notes; (case a_d_split_notes => k_is); (case l_d_split_notes => k_is); (case c_d_split_notes => k_is); (case k_d_split_notes => k_is))
    case d_with_changed => (refine' Rc.mkDef KX G ?a_d_with_changed ?l_d_with_changed ?c_d_with_changed ?k_d_with_changed; (case a_d_with_changed => k_is); (case l_d_with_changed => k_is); (case c_d_with_changed => k_is); (case k_d_with_changed => k_is))
    case d_due_of => (refine' Rc.mkDef KX G ?a_d_due_of ?l_d_due_of ?c_d_due_of ?k_d_due_of; (case a_d_due_of => k_is); (case l_d_due_of => k_is); (case c_d_due_of => k_is); (case k_d_due_of => k_is))
    case d_all_dues => (refine' Rc.mkDef KX G ?a_d_all_dues ?l_d_all_dues ?c_d_all_dues ?k_d_all_dues; (case a_d_all_dues => k_is); (case l_d_all_dues => k_is); (case c_d_all_dues => k_is); (case k_d_all_dues => k_is))
    case d_trail_by => (refine' Rc.mkDef KX G ?a_d_trail_by ?l_d_trail_by ?c_d_trail_by ?k_d_trail_by; (case a_d_trail_by => k_is); (case l_d_trail_by => k_is); (case c_d_trail_by => k_is); (case k_d_trail_by => k_is))
    case d_ring_by => (refine' Rc.mkDef KX G ?a_d_ring_by ?l_d_ring_by ?c_d_ring_by ?k_d_ring_by; (case a_d_ring_by => k_is); (case l_d_ring_by => k_is); (case c_d_ring_by => k_is); (case k_d_ring_by => k_is))
    case d_check_person => (refine' Rc.mkDef KX G ?a_d_check_person ?l_d_check_person ?c_d_check_person ?k_d_check_person; (case a_d_check_person => k_is); (case l_d_check_person => k_is); (case c_d_check_person => k_is); (case k_d_check_person => k_is))
    case d_ring_of => (refine' Rc.mkDef KX G ?a_d_ring_of ?l_d_ring_of ?c_d_ring_of ?k_d_ring_of; (case a_d_ring_of => k_is); (case l_d_ring_of => k_is); (case c_d_ring_of => k_is); (case k_d_ring_of => k_is))
    case d_rings_by => (refine' Rc.mkDef KX G ?a_d_rings_by ?l_d_rings_by ?c_d_rings_by ?k_d_rings_by; (case a_d_rings_by => k_is); (case l_d_rings_by => k_is); (case c_d_rings_by => k_is); (case k_d_rings_by => k_is))
    case d_course_of => (refine' Rc.mkDef KX G ?a_d_course_of ?l_d_course_of ?c_d_course_of ?k_d_course_of; (case a_d_course_of => k_is); (case l_d_course_of => k_is); (case c_d_course_of => k_is); (case k_d_course_of => k_is))
    case d_settled_book => (refine' Rc.mkDef KX G ?a_d_settled_book ?l_d_settled_book ?c_d_settled_book ?k_d_settled_book; (case a_d_settled_book => k_is); (case l_d_settled_book => k_is); (case c_d_settled_book => k_is); (case k_d_settled_book => k_is))
    case d_most_to_pay => (refine' Rc.mkDef KX G ?a_d_most_to_pay ?l_d_most_to_pay ?c_d_most_to_pay ?k_d_most_to_pay; (case a_d_most_to_pay => k_is); (case l_d_most_to_pay => k_is); (case c_d_most_to_pay => k_is); (case k_d_most_to_pay => k_is))
    case d_least_due => (refine' Rc.mkDef KX G ?a_d_least_due ?l_d_least_due ?c_d_least_due ?k_d_least_due; (case a_d_least_due => k_is); (case l_d_least_due => k_is); (case c_d_least_due => k_is); (case k_d_least_due => k_is))
    case d_pay_on => (refine' Rc.mkDef KX G ?a_d_pay_on ?l_d_pay_on ?c_d_pay_on ?k_d_pay_on; (case a_d_pay_on => k_is); (case l_d_pay_on => k_is); (case c_d_pay_on => k_is); (case k_d_pay_on => k_is))
    case d_clear_ring => (refine' Rc.mkDef KX G ?a_d_clear_ring ?l_d_clear_ring ?c_d_clear_ring ?k_d_clear_ring; (case a_d_clear_ring => k_is); (case l_d_clear_ring => k_is); (case c_d_clear_ring => k_is); (case k_d_clear_ring => k_is))
    case d_is_step => (refine' Rc.mkDef KX G ?a_d_is_step ?l_d_is_step ?c_d_is_step ?k_d_is_step; (case a_d_is_step => k_is); (case l_d_is_step => k_is); (case c_d_is_step => k_is); (case k_d_is_step => k_is))
    case d_stepped => (refine' Rc.mkDef KX G ?a_d_stepped ?l_d_stepped ?c_d_stepped ?k_d_stepped; (case a_d_stepped => k_is); (case l_d_stepped => k_is); (case c_d_stepped => k_is); (case k_d_stepped => k_is))
    case d_l_pot => (refine' Rc.mkDef KX G ?a_d_l_pot ?l_d_l_pot ?c_d_l_pot ?k_d_l_pot; (case a_d_l_pot => k_is); (case l_d_l_pot => k_is); (case c_d_l_pot => k_is); (case k_d_l_pot => k_is))
    case d_l_take => (refine' Rc.mkDef KX G ?a_d_l_take ?l_d_l_take ?c_d_l_take ?k_d_l_take; (case a_d_l_take => k_is); (case l_d_l_take => k_is); (case c_d_l_take => k_is); (case k_d_l_take => k_is))
    case d_l_name => (refine' Rc.mkDef KX G ?a_d_l_name ?l_d_l_name ?c_d_l_name ?k_d_l_name; (case a_d_l_name => k_is); (case l_d_l_name => k_is); (case c_d_l_name => k_is); (case k_d_l_name => k_is))
    case d_l_names => (refine' Rc.mkDef KX G ?a_d_l_names ?l_d_l_names ?c_d_l_names ?k_d_l_names; (case a_d_l_names => k_is); (case l_d_l_names => k_is); (case c_d_l_names => k_is); (case k_d_l_names => k_is))
    case d_l_among => (refine' Rc.mkDef KX G ?a_d_l_among ?l_d_l_among ?c_d_l_among ?k_d_l_among; (case a_d_l_among => k_is); (case l_d_l_among => k_is); (case c_d_l_among => k_is); (case k_d_l_among => k_is))
    case d_l_amount => (refine' Rc.mkDef KX G ?a_d_l_amount ?l_d_l_amount ?c_d_l_amount ?k_d_l_amount; (case a_d_l_amount => k_is); (case l_d_l_amount => k_is); (case c_d_l_amount => k_is); (case k_d_l_amount => k_is))
    case d_l_model => (refine' Rc.mkDef KX G ?a_d_l_model ?l_d_l_model ?c_d_l_model ?k_d_l_model; (case a_d_l_model => k_is); (case l_d_l_model => k_is); (case c_d_l_model => k_is); (case k_d_l_model => k_is))
    case d_l_parted => (refine' Rc.mkDef KX G ?a_d_l_parted ?l_d_l_parted ?c_d_l_parted ?k_d_l_parted; (case a_d_l_parted => k_is); (case l_d_l_parted => k_is); (case c_d_l_parted => k_is); (case k_d_l_parted => k_is))
    case d_l_left => (refine' Rc.mkDef KX G ?a_d_l_left ?l_d_l_left ?c_d_l_left ?k_d_l_left; (case a_d_l_left => k_is); (case l_d_l_left => k_is); (case c_d_l_left => k_is); (case k_d_l_left => k_is))
    case d_l_cash => (refine' Rc.mkDef KX G ?a_d_l_cash ?l_d_l_cash ?c_d_l_cash ?k_d_l_cash; (case a_d_l_cash => k_is); (case l_d_l_cash => k_is); (case c_d_l_cash => k_is); (case k_d_l_cash => k_is))
    case d_l_next => (refine' Rc.mkDef KX G ?a_d_l_next ?l_d_l_next ?c_d_l_next ?k_d_l_next; (case a_d_l_next => k_is); (case l_d_l_next => k_is); (case c_d_l_next => k_is); (case k_d_l_next => k_is))
    case d_l_trail => (refine' Rc.mkDef KX G ?a_d_l_trail ?l_d_l_trail ?c_d_l_trail ?k_d_l_trail; (case a_d_l_trail => k_is); (case l_d_l_trail => k_is); (case c_d_l_trail => k_is); (case k_d_l_trail => k_is))
    case d_l_ring => (refine' Rc.mkDef KX G ?a_d_l_ring ?l_d_l_ring ?c_d_l_ring ?k_d_l_ring; (case a_d_l_ring => k_is); (case l_d_l_ring => k_is); (case c_d_l_ring => k_is); (case k_d_l_ring => k_is))
    case d_l_deeds => (refine' Rc.mkDef KX G ?a_d_l_deeds ?l_d_l_deeds ?c_d_l_deeds ?k_d_l_deeds; (case a_d_l_deeds => k_is); (case l_d_l_deeds => k_is); (case c_d_l_deeds => k_is); (case k_d_l_deeds => k_is))
    case d_l_done => (refine' Rc.mkDef KX G ?a_d_l_done ?l_d_l_done ?c_d_l_done ?k_d_l_done; (case a_d_l_done => k_is); (case l_d_l_done => k_is); (case c_d_l_done => k_is); (case k_d_l_done => k_is))
    case d_l_alike => (refine' Rc.mkDef KX G ?a_d_l_alike ?l_d_l_alike ?c_d_l_alike ?k_d_l_alike; (case a_d_l_alike => k_is); (case l_d_l_alike => k_is); (case c_d_l_alike => k_is); (case k_d_l_alike => k_is))
    case d_l_fall => (refine' Rc.mkDef KX G ?a_d_l_fall ?l_d_l_fall ?c_d_l_fall ?k_d_l_fall; (case a_d_l_fall => k_is); (case l_d_l_fall => k_is); (case c_d_l_fall => k_is); (case k_d_l_fall => k_is))
    case d_l_most => (refine' Rc.mkDef KX G ?a_d_l_most ?l_d_l_most ?c_d_l_most ?k_d_l_most; (case a_d_l_most => k_is); (case l_d_l_most => k_is); (case c_d_l_most => k_is); (case k_d_l_most => k_is))
    case d_l_least => (refine' Rc.mkDef KX G ?a_d_l_least ?l_d_l_least ?c_d_l_least ?k_d_l_least; (case a_d_l_least => k_is); (case l_d_l_least => k_is); (case c_d_l_least => k_is); (case k_d_l_least => k_is))
    case d_l_is_settled => (refine' Rc.mkDef KX G ?a_d_l_is_settled ?l_d_l_is_settled ?c_d_l_is_settled ?k_d_l_is_settled; (case a_d_l_is_settled => k_is); (case l_d_l_is_settled => k_is); (case c_d_l_is_settled => k_is); (case k_d_l_is_settled => k_is))
    case d_l_sweep => (refine' Rc.mkDef KX G ?a_d_l_sweep ?l_d_l_sweep ?c_d_l_sweep ?k_d_l_sweep; (case a_d_l_sweep => k_is); (case l_d_l_sweep => k_is); (case c_d_l_sweep => k_is); (case k_d_l_sweep => k_is))
    case d_l_settle => (refine' Rc.mkDef KX G ?a_d_l_settle ?l_d_l_settle ?c_d_l_settle ?k_d_l_settle; (case a_d_l_settle => k_is); (case l_d_l_settle => k_is); (case c_d_l_settle => k_is); (case k_d_l_settle => k_is))
    case d_l_copied => (refine' Rc.mkDef KX G ?a_d_l_copied ?l_d_l_copied ?c_d_l_copied ?k_d_l_copied; (case a_d_l_copied => k_is); (case l_d_l_copied => k_is); (case c_d_l_copied => k_is); (case k_d_l_copied => k_is))
    case d_l_step => (refine' Rc.mkDef KX G ?a_d_l_step ?l_d_l_step ?c_d_l_step ?k_d_l_step; (case a_d_l_step => k_is); (case l_d_l_step => k_is); (case c_d_l_step => k_is); (case k_d_l_step => k_is))
    case d_l_went => (refine' Rc.mkDef KX G ?a_d_l_went ?l_d_l_went ?c_d_l_went ?k_d_l_went; (case a_d_l_went => k_is); (case l_d_l_went => k_is); (case c_d_l_went => k_is); (case k_d_l_went => k_is))
    case d_l_deed_drawn => (refine' Rc.mkDef KX G ?a_d_l_deed_drawn ?l_d_l_deed_drawn ?c_d_l_deed_drawn ?k_d_l_deed_drawn; (case a_d_l_deed_drawn => k_is); (case l_d_l_deed_drawn => k_is); (case c_d_l_deed_drawn => k_is); (case k_d_l_deed_drawn => k_is))
    case d_l_model_did => (refine' Rc.mkDef KX G ?a_d_l_model_did ?l_d_l_model_did ?c_d_l_model_did ?k_d_l_model_did; (case a_d_l_model_did => k_is); (case l_d_l_model_did => k_is); (case c_d_l_model_did => k_is); (case k_d_l_model_did => k_is))
    case d_l_ledger_did => (refine' Rc.mkDef KX G ?a_d_l_ledger_did ?l_d_l_ledger_did ?c_d_l_ledger_did ?k_d_l_ledger_did; (case a_d_l_ledger_did => k_is); (case l_d_l_ledger_did => k_is); (case c_d_l_ledger_did => k_is); (case k_d_l_ledger_did => k_is))
    case d_l_stands => (refine' Rc.mkDef KX G ?a_d_l_stands ?l_d_l_stands ?c_d_l_stands ?k_d_l_stands; (case a_d_l_stands => k_is); (case l_d_l_stands => k_is); (case c_d_l_stands => k_is); (case k_d_l_stands => k_is))
    case d_l_round => (refine' Rc.mkDef KX G ?a_d_l_round ?l_d_l_round ?c_d_l_round ?k_d_l_round; (case a_d_l_round => k_is); (case l_d_l_round => k_is); (case c_d_l_round => k_is); (case k_d_l_round => k_is))
    case d_law => (refine' Rc.mkDef KX G ?a_d_law ?l_d_law ?c_d_law ?k_d_law; (case a_d_law => k_is); (case l_d_law => k_is); (case c_d_law => k_is); (case k_d_law => k_is))
    case m_init => (refine' Rc.mkMeth ?a_m_init ?i_m_init ?l_m_init ?c_m_init ?k_m_init; (case a_m_init => k_is); (case i_m_init => k_is); (case l_m_init => k_is); (case c_m_init => k_is); (case k_m_init => k_is))
    case m_with_these => (refine' Rc.mkMeth ?a_m_with_these ?i_m_with_these ?l_m_with_these ?c_m_with_these ?k_m_with_these; (case a_m_with_these => k_is); (case i_m_with_these => k_is); (case l_m_with_these => k_is); (case c_m_with_these => k_is); (case k_m_with_these => k_is))
    case m_has => (refine' Rc.mkMeth ?a_m_has ?i_m_has ?l_m_has ?c_m_has ?k_m_has; (case a_m_has => k_is); (case i_m_has => k_is); (case l_m_has => k_is); (case c_m_has => k_is); (case k_m_has => k_is))
    case m_place_of => (refine' Rc.mkMeth ?a_m_place_of ?i_m_place_of ?l_m_place_of ?c_m_place_of ?k_m_place_of; (case a_m_place_of => k_is); (case i_m_place_of => k_is); (case l_m_place_of => k_is); (case c_m_place_of => k_is); (case k_m_place_of => k_is))
    case m_persons => (refine' Rc.mkMeth ?a_m_persons ?i_m_persons ?l_m_persons ?c_m_persons ?k_m_persons; (case a_m_persons => k_is); (case i_m_persons => k_is); (case l_m_persons => k_is); (case c_m_persons => k_is); (case k_m_persons => k_is))
    case m_given => (refine' Rc.mkMeth ?a_m_given ?i_m_given ?l_m_given ?c_m_given ?k_m_given; (case a_m_given => k_is); (case i_m_given => k_is); (case l_m_given => k_is); (case c_m_given => k_is); (case k_m_given => k_is))
    case m_fallen => (refine' Rc.mkMeth ?a_m_fallen ?i_m_fallen ?l_m_fallen ?c_m_fallen ?k_m_fallen; (case a_m_fallen => k_is); (case i_m_fallen => k_is); (case l_m_fallen => k_is); (case c_m_fallen => k_is); (case k_m_fallen => k_is))
    case m_notes => (refine' Rc.mkMeth ?a_m_notes ?i_m_notes ?l_m_notes ?c_m_notes ?k_m_notes; (case a_m_notes => k_is); (case i_m_notes => k_is); (case l_m_notes => k_is); (case c_m_notes => k_is); (case k_m_notes => k_is))
    case m_pile => (refine' Rc.mkMeth ?a_m_pile ?i_m_pile ?l_m_pile ?c_m_pile ?k_m_pile; (case a_m_pile => k_is); (case i_m_pile => k_is); (case l_m_pile => k_is); (case c_m_pile => k_is); (case k_m_pile => k_is))
    case m_fallen_to => (refine' Rc.mkMeth ?a_m_fallen_to ?i_m_fallen_to ?l_m_fallen_to ?c_m_fallen_to ?k_m_fallen_to; (case a_m_fallen_to => k_is); (case i_m_fallen_to => k_is); (case l_m_fallen_to => k_is); (case c_m_fallen_to => k_is); (case k_m_fallen_to => k_is))
    case m_cash => (refine' Rc.mkMeth ?a_m_cash ?i_m_cash ?l_m_cash ?c_m_cash ?k_m_cash; (case a_m_cash => k_is); (case i_m_cash => k_is); (case l_m_cash => k_is); (case c_m_cash => k_is); (case k_m_cash => k_is))
    case m_put => (refine' Rc.mkMeth ?a_m_put ?i_m_put ?l_m_put ?c_m_put ?k_m_put; (case a_m_put => k_is); (case i_m_put => k_is); (case l_m_put => k_is); (case c_m_put => k_is); (case k_m_put => k_is))
    case m_give => (refine' Rc.mkMeth ?a_m_give ?i_m_give ?l_m_give ?c_m_give ?k_m_give; (case a_m_give => k_is); (case i_m_give => k_is); (case l_m_give => k_is); (case c_m_give => k_is); (case k_m_give => k_is))
    case m_whole_of => (refine' Rc.mkMeth ?a_m_whole_of ?i_m_whole_of ?l_m_whole_of ?c_m_whole_of ?k_m_whole_of; (case a_m_whole_of => k_is); (case i_m_whole_of => k_is); (case l_m_whole_of => k_is); (case c_m_whole_of => k_is); (case k_m_whole_of => k_is))
    case m_may_fall => (refine' Rc.mkMeth ?a_m_may_fall ?i_m_may_fall ?l_m_may_fall ?c_m_may_fall ?k_m_may_fall; (case a_m_may_fall => k_is); (case i_m_may_fall => k_is); (case l_m_may_fall => k_is); (case c_m_may_fall => k_is); (case k_m_may_fall => k_is))
    case m_let_fall => (refine' Rc.mkMeth ?a_m_let_fall ?i_m_let_fall ?l_m_let_fall ?c_m_let_fall ?k_m_let_fall; (case a_m_let_fall => k_is); (case i_m_let_fall => k_is); (case l_m_let_fall => k_is); (case c_m_let_fall => k_is); (case k_m_let_fall => k_is))
    case xTA => (refine' Rc.mkTab KX G ?xTA_a ?xTA_l ?xTA_k ?xTA_w ?xTA_p1 ?xTA_c1 ?xTA_p2 ?xTA_c2; (case xTA_a => k_is); (case xTA_l => k_is); (case xTA_k => exact ⟨⟨_, _, rfl, rfl⟩, ⟨_, _, rfl, rfl⟩, trivial⟩); (case xTA_w => rfl); (case xTA_p1 => k_is); (case xTA_c1 => k_is); (case xTA_p2 => k_is); (case xTA_c2 => k_is))

