import PyProof.Rows.All
import Wide.All
import OpenK.AllK
import Wide.FinOn
import HandS.ForMost
import HandS.IsInst
import HandS.WideBits
import PyProof.ReprRoads
import HandS.Walk
import HandS.TupAny
import HandS.TupMul
import HandS.Strs
import HandS.Zip
import HandS.Codes
import HandS.Exc
import HandS.ExcField
import HandS.ExcSuper
import KE.KExcInit
import KE.KExcSuper
import HandS.ForExc
import HandS.ExcValue
import HandS.ExcIs
import KE.KExcIs
import HandS.SetFor
import HandS.More
import HandS.DictComp
import PyProof.InstNe
import HandS.CallLocal
import HandS.Defaults
import HandS.OwnEq
import HandS.Style
import PyProof.StrOps2
import HandS.Deep
import KE.KExcLine
import PySem.Challenge.RW_ringclear_k43_refused_in_order
set_option Elab.async false
set_option linter.all false
set_option maxRecDepth 100000
namespace Rc
open PySem PySem.Spec PyProof.Rows L2

/-- a promise that is kept where no repr is under way -/
structure FnG (P : Program) (w : World) (K : PySem.W.Frag) (mg : Str → Option Value)
    (base : Heap) (CX : CXT) (k : Nat) (f : Addr) (fd : FuncData) (ps : List Str) (sp : Sp) : Prop where
  len : ∀ vs H Q E, sp vs H Q E → vs.length = ps.length
  go : ∀ (A : Around) (outer : List Env) (s : Shared) (H : Hp) (args : Args) (us : List Value)
    (vs : List V) (Q : VK) (E : XK), Room k A → A.guards = some [] →
    Env0 P w K mg base A outer s H → BindsTo s fd args (ps.zip us) → Vals vs us → sp vs H Q E →
    codeAny (model P w) A (.call (.ref f) args) (CR CX outer P w H s Q E) s

section
variable {P : Program} {w : World} {K : PySem.W.Frag} {mg : Str → Option Value} {base : Heap}

theorem FnG.of {CX : CXT} {k : Nat} {f : Addr} {fd : FuncData} {ps : List Str} {sp : Sp}
    (F : FnOk P w K mg base CX k f fd ps sp) : FnG P w K mg base CX k f fd ps sp :=
  ⟨F.len, fun A outer s H args us vs Q E hr _ e0 hb r h =>
    F.run A outer s H args us vs Q E hr e0 hb r h⟩

/-- a def by its body, no repr being under way -/
theorem okG {CX : CXT} {x qual : Str} {st : Stmt} {f : Addr} {fd : FuncData} {N ps : List Str} {k : Nat} {sp : Sp}
    (F : Fun K x qual st f fd) (S : FnScope N ps (defScope st))
    (len : ∀ vs H Q E, sp vs H Q E → vs.length = ps.length)
    (body : ∀ (cdv : Value) (A : Around) (outer : List Env) (s : Shared) (H : Hp) (vs : List V) (Q : VK) (E : XK),
      Room k (A.deeper (envOfC qual (defScope st) s.heap.objs.size f cdv)) → A.guards = some [] → sp vs H Q E →
      ∃ t, PSs (cxOf CX P w K mg base N qual (defScope st) f cdv A outer s H E) (defBody st) t ∧
        t { nx := fun _ H' => Q .non H', rt := Q } (start N vs) H) :
    FnG P w K mg base CX (k + 1) f fd ps sp := by
  obtain ⟨oc, od, kV, doc, pm, an, cdv, ct, osl, rfl, lk, hcd⟩ := F.ex
  refine ⟨len, fun A outer s H args us vs Q E hr hg e0 hb r hsp => ?_⟩
  have hl := len vs H Q E hsp
  have keep : ∀ b o, base.get? b = some o → s.heap.get? b = some o := fun b o e => (e0.bs b o e).1
  have KX : K.In s.heap := e0.mod.kin.keeps keep
  refine codeAny_call_function hr.depth (KX _ _ lk) rfl S.co S.gen rfl
    (PySem.W.codeRec_of KX hcd) (hb _ _ _ _ ?_)
  refine wpAny_newFunctionEnv_cells S.kind (fun y hy => ?_) fun env he s1 x => ?_
  · obtain ⟨n, v⟩ := y
    exact (S.par n (List.of_mem_zip hy).1).elim .inl fun q => .inr ⟨q, PySem.W.cellsFrom_some _ _ _ (.inl q)⟩
  · subst he
    refine ⟨(e0.mod.nolimit.keeps keep).keeps x.toInCall.keep, codeAny_func ?_⟩
    obtain ⟨t, ht, hq⟩ := body cdv A outer s H vs Q E (hr.deeper _) hg hsp
    have I := inv_start (CX := CX) (E := E) S hr.hd e0 hl r x
    refine wpAny_mono (ht.run [] s1 (start N vs) H _ I hq) (fun fl s' hs => ?_) fun _ _ z => z
    cases fl with
    | ret u =>
      obtain ⟨v, σ', H', J, rv, q⟩ := hs
      exact ⟨v, H', J.os, J.bare, J.base, J.hok, rv, q⟩
    | next =>
      obtain ⟨σ', H', J, q⟩ := hs
      exact ⟨.non, H', J.os, J.bare, J.base, J.hok, rfl, q⟩
    | brk =>
      obtain ⟨_, _, _, q⟩ := hs
      exact q.elim
    | cont =>
      obtain ⟨_, _, _, q⟩ := hs
      exact q.elim
/-- .. where nothing that is raised leaves it -/
theorem okG0 {x qual : Str} {st : Stmt} {f : Addr} {fd : FuncData} {N ps : List Str} {k : Nat} {sp : Sp}
    (F : Fun K x qual st f fd) (S : FnScope N ps (defScope st))
    (len : ∀ vs H Q E, sp vs H Q E → vs.length = ps.length)
    (body : ∀ (cdv : Value) (A : Around) (outer : List Env) (s : Shared) (H : Hp) (vs : List V) (Q : VK) (E : XK),
      Room k (A.deeper (envOfC qual (defScope st) s.heap.objs.size f cdv)) → A.guards = some [] → sp vs H Q E →
      ∃ t, PSs (cxOf CX0 P w K mg base N qual (defScope st) f cdv A outer s H E).nox (defBody st) t ∧
        t { nx := fun _ H' => Q .non H', rt := Q } (start N vs) H) :
    FnG P w K mg base CX0 (k + 1) f fd ps sp :=
  okG F S len fun cdv A outer s H vs Q E hr hg h =>
    let ⟨t, a, b⟩ := body cdv A outer s H vs Q E hr hg h
    ⟨t, a.nox, b⟩
end

section
variable {X : Cx} {CX : CXT} {k : Nat} {f : Addr} {fd : FuncData} {ps : List Str} {sp : Sp} {E : XK} {x : Str}
  {p pos : Pos} {e : Expr} {es : List Expr} {t : TA}

theorem runG {pins : List (Addr × Obj)} {σ : L2.St} {H : Hp} {s : Shared} {Q : VK} {us : List Value} {vs : List V} {ds : List Value} {dvs : List V}
    (F : FnG X.prog X.w X.K X.mg X.base CX k f fd ps sp) (hr : Room k X.A) (hg : X.A.guards = some [])
    (hb : Binds X.K fd ps ds) (hd : Vals dvs ds) (hx : Passes CX X E) (I : Inv X pins σ H s) (r : Vals vs us)
    (h : sp (vs ++ dvs) H Q E) :
    wpAny (model X.prog X.w) X.A (call (.ref f) us) (EP X pins σ Q) X.xe s := by
  have r2 : Vals (vs ++ dvs) (us ++ ds) := r.append hd
  have hl : (us ++ ds).length = ps.length := r2.length.symm.trans (F.len _ _ _ _ h)
  refine wpAny_call (codeAny_mono (F.go X.A X.stack s H ⟨us, []⟩ (us ++ ds) (vs ++ dvs) Q E hr hg
    I.env0 (hb s us I.kIn hl) r2 h) fun r s' hq => ?_)
  match r, hq with
  | .error e, hq => exact hx pins σ H s e s' I hq
  | .ok (.ret u), hq => exact I.after hq
  | .ok .next, hq => exact hq.elim
  | .ok .brk, hq => exact hq.elim
  | .ok .cont, hq => exact hq.elim

theorem pe_callG {ds : List Value} {dvs : List V} (F : FnG X.prog X.w X.K X.mg X.base CX k f fd ps sp) (hr : Room k X.A)
    (gd : X.A.guards = some []) (hg : Gl X x) (hm : X.mg x = some (.ref f)) (hk : PySem.W.keepIn X.K (.ref f) = true)
    (hb : Binds X.K fd ps ds) (hd : Vals dvs ds) (hx : Passes CX X E) (ha : PA X (e :: es) t)
    (hdb : (x == ("__debug__" : Str)) = false := by decide)
    (he : starEach (e :: es) X.env = (false, eval e X.env) :: starEach es X.env := by rfl)
    (hpl : (backTo pos (starEach es X.env)).any (·.1) = false := by rfl) :
    PE X (.Call (.Name x p) (e :: es) [] pos) (tCall sp dvs E t) := by
  refine ⟨fun pins s σ H Q I h => wpAny_Call_Name_kw (ld_glob I hg hm ?_ hdb)⟩
  refine PySem.W.callWith_K (h₀ := X.base) I.ok.mod.kin hk ?_ he hpl
  refine thn (ha.run pos pins s σ H _ I h) fun us s1 z => ?_
  obtain ⟨vs, H1, I1, r, q⟩ := z
  exact ⟨I1.kIn, runG F hr gd hb hd hx I1 r q⟩

/-- f(k = v, ..), no value by place -/
def tCallKw (sp : Sp) (E : XK) (n : Nat) (tk : TA) : TE := fun σ H Q => tk σ H fun zs H2 => zs.length = n ∧ sp zs H2 Q E
theorem pe_callKw {ks : List Str} {kws : List Keyword} {tk : TA} (F : FnOk X.prog X.w X.K X.mg X.base CX k f fd ps sp)
    (hr : Room k X.A) (hg : Gl X x) (hm : X.mg x = some (.ref f)) (hk : PySem.W.keepIn X.K (.ref f) = true)
    (hb : ∀ (s : Shared) (ws : List Value), ws.length = ks.length → BindsTo s fd ⟨[], ks.zip ws⟩ (ps.zip ws)) (hx : Passes CX X E)
    (hkw : PK X kws tk) (hall : (backToKw pos (keywordEach kws X.env)).all (·.1.isSome) = true := by rfl)
    (hks : (backToKw pos (keywordEach kws X.env)).filterMap (·.1) = ks := by rfl)
    (hdb : (x == ("__debug__" : Str)) = false := by decide)
    (hpl : ((backTo pos (starEach [] X.env)).any (·.1) || (backToKw pos (keywordEach kws X.env)).any (·.1.isNone)) = false := by rfl) :
    PE X (.Call (.Name x p) [] kws pos) (tCallKw sp E ks.length tk) := by
  refine ⟨fun pins s σ H Q I h => wpAny_Call_Name_kw (ld_glob I hg hm ?_ hdb)⟩
  refine PySem.W.callWith_KW0 (h₀ := X.base) I.ok.mod.kin hk hall ?_ hpl
  refine thn (hkw.run pos pins s σ H _ I h) fun ws s2 z => ?_
  obtain ⟨zs, H2, I2, rz, l, q⟩ := z
  refine ⟨I2.kIn, ?_⟩
  rw [hks]
  refine wpAny_call (codeAny_mono (F.run X.A X.stack s2 H2 ⟨[], ks.zip ws⟩ ws zs Q E hr I2.env0
    (hb s2 ws (rz.length.symm.trans l)) rz q) fun r s' hq => ?_)
  match r, hq with
  | .error e, hq => exact hx pins σ H2 s2 e s' I2 hq
  | .ok (.ret u), hq => exact I2.after hq
  | .ok .next, hq => exact hq.elim
  | .ok .brk, hq => exact hq.elim
  | .ok .cont, hq => exact hq.elim
end

/-! ### repr -/
/-- no object -/
inductive Flat : V → PyData → Prop
  | non : Flat .non .none
  | bl (b : Bool) : Flat (.bl b) (.bool b)
  | int (i : Int) : Flat (.int i) (.int i)
  | str (x : Str) : Flat (.str x) (.str x)
inductive Flats : List V → List PyData → Prop
  | nil : Flats [] []
  | cons {v : V} {vs : List V} {d : PyData} {ds : List PyData} : Flat v d → Flats vs ds → Flats (v :: vs) (d :: ds)
mutual
/-- data that stands in the heap: none, truths, ints, texts, lists, tuples, dicts with int and text keys -/
inductive Dt (K : PySem.W.Frag) (H : Hp) : V → PyData → Prop
  | non : Dt K H .non .none
  | bl (b : Bool) : Dt K H (.bl b) (.bool b)
  | int (i : Int) : Dt K H (.int i) (.int i)
  | str (x : Str) : Dt K H (.str x) (.str x)
  | lst {a : Addr} {xs : List V} {ds : List PyData} : SqL K H a xs → DtAll K H xs ds → Dt K H (.ref a) (.list ds)
  | tup {a : Addr} {xs : List V} {ds : List PyData} : SqT K H a xs → DtAll K H xs ds → Dt K H (.ref a) (.tuple ds)
  | dct {a : Addr} {kvs : List (Key × V)} {ps : List (PyData × PyData)} : H a = some (.dK kvs) →
      Flats (kvs.map fun p => kV p.1) (ps.map (·.1)) → Flats (kvs.map (·.2)) (ps.map (·.2)) →
      Dt K H (.ref a) (.dict ps)
inductive DtAll (K : PySem.W.Frag) (H : Hp) : List V → List PyData → Prop
  | nil : DtAll K H [] []
  | cons {v : V} {vs : List V} {d : PyData} {ds : List PyData} : Dt K H v d → DtAll K H vs ds → DtAll K H (v :: vs) (d :: ds)
end

theorem Flat.reads {h : Heap} {v : V} {d : PyData} {u : Value} (f : Flat v d) (r : RelV v u) : Reads h u d [] := by
  cases f with
  | non => cases r; exact .none
  | bl b => cases r; exact .bool b
  | int i => obtain ⟨t, rfl⟩ := r; exact .int i t
  | str x => obtain ⟨t, rfl⟩ := r; exact .str x t
theorem Flats.reads {h : Heap} : ∀ {vs : List V} {ds : List PyData} {us : List Value}, Flats vs ds → Vals vs us → ReadsAll h us ds []
  | _, _, _, .nil, .nil => .nil
  | _, _, _, .cons f fs, .cons r rs => .cons (f.reads r) (fs.reads rs)
theorem keys_rel {P : Program} {w : World} : ∀ {es : List DictEntry} {vs : List (Key × Value)} {kvs : List (Key × V)}, Pairs (mixKind P w) es vs → KV kvs vs →
    Vals (kvs.map fun p => kV p.1) (es.map (·.key)) ∧ Vals (kvs.map (·.2)) (es.map (·.val))
  | [], _, _, .nil, .nil => ⟨.nil, .nil⟩
  | e :: es, (k, x) :: vs, (k', y) :: kvs, .cons h1 h2 hp, .cons r rs => by
    obtain ⟨a, b⟩ := keys_rel hp rs
    obtain ⟨e1, e2⟩ := r
    have e1' : k' = k := e1
    subst e1'
    refine ⟨.cons ?_ a, .cons ?_ b⟩
    · rcases keyIs_shape h1 with ⟨i, t, q1, q2⟩ | ⟨z, t, q1, q2⟩
      · have q1' : k' = Sum.inl i := q1
        subst q1'
        exact ⟨t, q2⟩
      · have q1' : k' = Sum.inr z := q1
        subst q1'
        exact ⟨t, q2⟩
    · show L2.RelV y e.val
      rw [h2]
      exact e2
section
variable {X : Cx} {pins : List (Addr × Obj)} {σ : L2.St} {H : Hp} {s : Shared}
/-- a dict alone may hold a dict (itself) -/
def DictTop (d : PyData) : Prop := d.hasDict = false ∨ ∃ ps, d = .dict ps
mutual
theorem Dt.reads (I : Inv X pins σ H s) : ∀ (d : PyData) (v : V) (u : Value), Dt X.K H v d → RelV v u →
    ∃ as, Reads s.heap u d as ∧ ((∃ ps, d = .dict ps) → sysModules ∉ as)
  | .none, _, _, h, r => by
    cases h; cases r
    exact ⟨_, .none, fun z => by obtain ⟨_, z⟩ := z; cases z⟩
  | .bool b, _, _, h, r => by
    cases h; cases r
    exact ⟨_, .bool b, fun z => by obtain ⟨_, z⟩ := z; cases z⟩
  | .int i, _, _, h, r => by
    cases h
    obtain ⟨t, rfl⟩ := r
    exact ⟨_, .int i t, fun z => by obtain ⟨_, z⟩ := z; cases z⟩
  | .str x, _, _, h, r => by
    cases h
    obtain ⟨t, rfl⟩ := r
    exact ⟨_, .str x t, fun z => by obtain ⟨_, z⟩ := z; cases z⟩
  | .list ds, _, _, h, r => by
    cases h with
    | lst hs ha =>
      cases r
      obtain ⟨its, rv, ⟨o, n, ho, hc, _, hd⟩, _⟩ := I.list hs
      obtain ⟨as, q⟩ := Dt.readsAll I ds _ its ha rv
      exact ⟨_, .list ho hc hd q, fun z => by obtain ⟨_, z⟩ := z; cases z⟩
  | .tuple ds, _, _, h, r => by
    cases h with
    | tup hs ha =>
      cases r
      obtain ⟨its, rv, ⟨o, ho, hc, n, hd⟩, _⟩ := I.tuple hs
      obtain ⟨as, q⟩ := Dt.readsAll I ds _ its ha rv
      exact ⟨_, .tuple ho hc hd q, fun z => by obtain ⟨_, z⟩ := z; cases z⟩
  | .dict ps, _, _, h, r => by
    cases h with
    | dct e fk fv =>
      cases r
      obtain ⟨_, ns, vs, kv, o, es, ep, ho, hx, hd, _, hp, _⟩ := I.hok _ _ e
      obtain ⟨a, b⟩ := keys_rel hp kv
      refine ⟨_, .dict ho hx.1 hd (fk.reads a) (fv.reads b), fun _ z => ?_⟩
      have z' := List.mem_singleton.mp (by simpa using z)
      rw [← z'] at ns
      simp at ns
theorem Dt.readsAll (I : Inv X pins σ H s) : ∀ (ds : List PyData) (vs : List V) (us : List Value), DtAll X.K H vs ds → Vals vs us → ∃ as, ReadsAll s.heap us ds as
  | [], _, _, h, r => by
    cases h; cases r
    exact ⟨_, .nil⟩
  | d :: ds, _, _, h, r => by
    cases h with
    | cons h1 h2 =>
      cases r with
      | cons r1 r2 =>
        obtain ⟨as, q1, _⟩ := Dt.reads I d _ _ h1 r1
        obtain ⟨bs, q2⟩ := Dt.readsAll I ds _ _ h2 r2
        exact ⟨_, .cons q1 q2⟩
end
end
section
variable {X : Cx}
def rRepr (K : PySem.W.Frag) : List V → Hp → VK → Prop := fun xs H Q => ∃ v d, xs = [v] ∧ Dt K H v d ∧ d.showable = true ∧ DictTop d ∧ d.depth ≤ 20 ∧ ((∃ i, d = .int i) ∨ d.shown.length ≤ sizeLine) ∧ Q (.str d.shown) H
theorem notInt {d : PyData} {A : Prop} (h : (∃ i, d = .int i) ∨ A) (n : ∀ i, d ≠ .int i) : A := h.elim (fun z => let ⟨i, e⟩ := z; absurd e (n i)) id
theorem call_repr {k : Nat} (hr : Room k X.A) (hg : X.A.guards = some []) : CallR X (.builtin "repr") (rRepr X.K) := by
  intro pins s σ H xs us Q I r h
  obtain ⟨v, d, rfl, hd, hs, ht, hp, hz, q⟩ := h
  obtain ⟨u, rfl, ru⟩ := vals1 r
  obtain ⟨as, rd, nsm⟩ := Dt.reads I d v u hd ru
  have hu := hr.units
  have big : ∀ a, u = .ref a → d.shown.length ≤ sizeLine → wpAny (model X.prog X.w) X.A (call (.builtin "repr") [u]) (EP X pins σ Q) X.xe s := by
    rintro a rfl hz
    refine repr_of_reads' rd hs (fun hx => ?_) hg (by omega) (fun _ _ e => e) (fun h' t tk hk => ?_) hz
    · rcases ht with z | z
      · rw [z] at hx; cases hx
      · exact nsm z
    · exact ⟨.str _, H, I.kept hk, ⟨t, rfl⟩, q⟩
  cases hd with
  | non => cases ru; exact PySem.P.repr_of_none ⟨.str _, H, I.tok _, ⟨_, rfl⟩, q⟩
  | bl b => cases ru; exact PySem.P.repr_of_bool ⟨.str _, H, I.tok _, ⟨_, rfl⟩, q⟩
  | int i =>
    obtain ⟨t, rfl⟩ := ru
    exact PySem.P.repr_of_int (by simpa [PyData.showable] using hs) ⟨.str _, H, I.tok _, ⟨_, rfl⟩, by simpa [PyData.shown] using q⟩
  | str x =>
    obtain ⟨t, rfl⟩ := ru
    exact PySem.P.repr_of_str ⟨.str _, H, I.tok _, ⟨_, rfl⟩, by simpa [PyData.shown] using q⟩ (by simpa [PyData.shown] using notInt hz (fun _ z => nomatch z))
  | lst _ _ => exact big _ ru (notInt hz fun _ z => nomatch z)
  | tup _ _ => exact big _ ru (notInt hz fun _ z => nomatch z)
  | dct _ _ _ => exact big _ ru (notInt hz fun _ z => nomatch z)
end

/-! ### the law's own call -/
section
open PySem.W
/-- the abstract heap at the law's entry: the script alone, locked, or nothing where it is the module's own -/
def entryH (K : Frag) (a : Addr) (o : Obj) (xs : List V) : Hp := fun b => if b = a ∧ K.lookup a = none then some (.frz o (.lst xs)) else none
theorem entryH_at {K : Frag} {a b : Addr} {o : Obj} {xs : List V} {u : HO} (h : entryH K a o xs b = some u) : b = a ∧ K.lookup a = none ∧ u = .frz o (.lst xs) := by
  unfold entryH at h
  split at h
  · rename_i c
    exact ⟨c.1, c.2, (Option.some.inj h).symm⟩
  · cases h
theorem law_callG {P : Program} {w : World} {K : Frag} {mg mb : Str → Option Value} {CX : CXT} {k : Nat} {fa a : Addr} {fd : FuncData}
    {x : Str} {sp : Sp} {s₁ : Shared} {vs : List Value} {ns : List Int}
    (KX : K.In s₁.heap) (hns : s₁.heap.Ns mainGlobals mg) (hb : s₁.heap.Ns builtinsNs mb)
    (hbb : ∀ x : Str, x ≠ "__name__" → mb x = bootBuiltins x) (hlim : s₁.heap.NoLimit) (hg : s₁.gens = #[])
    (ha : s₁.heap.get? a = some { cls := .type "list", data := .seq vs.toArray }) (hi : IntsAre vs ns)
    (hl : ns.length ≤ sizeLine) (hr : Room k callerA)
    (F : ∀ base : Heap, K.In base → base.Ns mainGlobals mg → FnG P w K mg base CX k fa fd [x] sp)
    (hbind : ∀ (s : Shared) (u : Value), BindsTo s fd ⟨[u], []⟩ [(x, u)])
    (hsp : ∀ H : Hp, Only H → SqL K H a (ns.map V.int) → sp [.ref a] H (fun v _ => v = .bl true) fun _ _ _ => False)
    (hCX : ∀ H e s', CX [] H s₁ (fun _ _ _ => False) e s' → False) :
    codeAny (model P w) callerA (.call (.ref fa) ⟨[.ref a], []⟩)
      (fun r s' => r = .ok (.ret (.bool true)) ∧ OldK s₁.heap s'.heap ∧ s'.os = s₁.os ∧ AllBare s'.gens) s₁ := by
  have rv := vals_ints hi
  have lv := hi.length
  generalize hH : entryH K a { cls := .type "list", data := .seq vs.toArray } (ns.map V.int) = H
  have hat : ∀ {b : Addr} {u : HO}, H b = some u → b = a ∧ K.lookup a = none ∧ u = .frz { cls := .type "list", data := .seq vs.toArray } (.lst (ns.map V.int)) :=
    fun {b u} e => entryH_at (by rw [hH]; exact e)
  have only : Only H := fun b => by
    cases q : H b with
    | none => exact .inl rfl
    | some u =>
      obtain ⟨_, _, rfl⟩ := hat q
      exact .inr ⟨_, _, rfl⟩
  have sq : SqL K H a (ns.map V.int) := by
    cases hk : K.lookup a with
    | none =>
      refine .inl (.inr ⟨{ cls := .type "list", data := .seq vs.toArray }, ?_⟩)
      rw [← hH]
      exact if_pos ⟨rfl, hk⟩
    | some o =>
      have e := KX a o hk
      rw [ha] at e
      cases e
      exact .inr ⟨_, vs.toArray, _, hk, rfl, rfl, rfl, by rw [List.size_toArray, lv]; exact hl, by simpa using rv⟩
  have hok : HOk P w H s₁.heap := fun b u e => by
    obtain ⟨rfl, _, rfl⟩ := hat e
    exact ⟨ha, by rw [List.length_map]; exact hl, vs, _, rv, ha⟩
  have dictFree : ∀ {b : Addr} {o : Obj} {es : Array DictEntry} {ep : Nat}, s₁.heap.get? b = some o → o.data = .dict es ep → H b = none := fun {b o es ep} e d => by
    cases q : H b with
    | none => rfl
    | some u =>
      obtain ⟨rfl, _, _⟩ := hat q
      rw [ha] at e
      cases e
      cases d
  have nsK : ∀ {b : Addr} {m : Str → Option Value}, s₁.heap.Ns b m → (hidT s₁.heap H).Ns b m :=
    fun {b m} z => let ⟨o, es, ep, e, d, r⟩ := z; ⟨o, es, ep, hidT_get e (dictFree e d), d, r⟩
  have kb : K.In (hidT s₁.heap H) := fun b o e => hidT_get (KX b o e) (by
    cases q : H b with
    | none => rfl
    | some u =>
      obtain ⟨rfl, z, _⟩ := hat q
      rw [z] at e
      cases e)
  have md : Mod K mg (hidT s₁.heap H) := ⟨kb, nsK hns, ⟨mb, nsK hb, hbb⟩, let ⟨mc, h1, h2⟩ := hlim; ⟨mc, nsK h1, h2⟩⟩
  have e0 : Env0 P w K mg (hidT s₁.heap H) callerA [] s₁ H :=
    { frames := rfl, mod := md, bs := fun b o e => of_hidT e, bsz := Nat.le_of_eq (hidT_size _ _), funs := trivial, frf := fun b z => absurd (show b ∈ ([] : List Addr) from z) (by simp), hok := hok, bare := .of_eq hg }
  refine codeAny_mono ((F _ kb (nsK hns)).go callerA [] s₁ H ⟨[.ref a], []⟩ [.ref a] [.ref a] _ _ hr rfl e0 (hbind s₁ (.ref a)) (.cons rfl .nil) (hsp H only sq)) fun r s' h => ?_
  match r, h with
  | .error e, h => exact (hCX H e s' h).elim
  | .ok .next, h => exact h.elim
  | .ok .brk, h => exact h.elim
  | .ok .cont, h => exact h.elim
  | .ok (.ret u), h =>
    obtain ⟨v, H', os, bare, un, hok', r', q⟩ := h
    have q' : v = .bl true := q
    subst q'
    obtain rfl : u = Value.bool true := r'
    refine ⟨rfl, OldK.of_keep fun b o e => ?_, os, bare⟩
    cases z : H b with
    | none => exact un.keep b o e z (fun y => absurd (show b ∈ ([] : List Addr) from y) (by simp)) (by simp)
    | some u =>
      obtain ⟨rfl, _, rfl⟩ := hat z
      have z2 := un.frzs _ _ _ z
      have e2 := (hok' _ _ z2).1
      rw [ha] at e
      cases e
      exact e2
/-- as walk_of, no repr being under way -/
theorem walk_ofG {l : OpenLaw} {n k : Nat} {q : Program} {loose : List Str} {XP : (Str → Option Value) → Heap → Prop} {YP : World → Heap → Prop}
    {d : DefRec} {K : Params → Frag} {CX : World → CXT} {sp : World → Sp} {x : Str}
    (hn : l.most = some n) (hn2 : n ≤ sizeLine) (hdf : d.params.defaults = []) (hr : Room k callerA)
    (hY : ∀ (w : World) (h : Heap), YP w h → (K w.params).In h)
    (F : ∀ (w : World) (mg : Str → Option Value) (fa : Addr) (h : Heap), (K w.params).In h → h.Ns mainGlobals mg →
      mg d.name = some (.ref fa) → ∃ fd : FuncData, (∀ (s : Shared) (u : Value), BindsTo s fd ⟨[u], []⟩ [(x, u)]) ∧
        ∀ base : Heap, (K w.params).In base → base.Ns mainGlobals mg → FnG l.prog w (K w.params) mg base (CX w) k fa fd [x] (sp w))
    (hsp : ∀ (w : World) (H : Hp) (a : Addr) (ns : List Int), ns.length ≤ n → Only H → SqL (K w.params) H a (ns.map V.int) →
      sp w [.ref a] H (fun v _ => v = .bl true) fun _ _ _ => False)
    (hCX : ∀ (w : World) (H : Hp) (s : Shared) (e : Value) (s' : Shared), CX w [] H s (fun _ _ _ => False) e s' → False) :
    WalkO q loose XP YP l.row.toRowW d [] (fun f vs => PySem.call f vs) := by
  refine Att.attach_call hn hdf fun w s₀ s₁ mg mb fa o pm cd doc a vs ns G Y ho hd hcd hmg hobj hints hlen hg => ?_
  obtain ⟨fd, b1, b2⟩ := F w mg fa _ (hY w _ Y) G.T.g hmg
  exact law_callG (hY w _ Y) G.T.g G.T.b G.T.builtins G.T.nolimit hg hobj hints (Nat.le_trans hlen hn2) hr b2 b1
    (fun H hO hS => hsp w H a ns hlen hO hS) fun H e s' => hCX w H s₁ e s'
end
end Rc

set_option exponentiation.threshold 400
namespace Rc
open PySem PySem.Spec PyProof.Rows L2
/-! ### the mathematics -/
def abc : List Nat := (List.range 26).map (· + 97)
def nameT (z : Str) : Bool := decide (1 ≤ z.length) && decide (z.length ≤ 8) && z.cps.toList.all fun c => decide (c ∈ abc)
def nameD : PyData → Bool
  | .str z => nameT z
  | _ => false
def wholeD : PyData → Bool
  | .int _ => true
  | _ => false
def amountD : PyData → Bool
  | .int i => decide (1 ≤ i)
  | _ => false
def tyD : PyData → String
  | .none => "NoneType"
  | .bool _ => "bool"
  | .int _ => "int"
  | .str _ => "str"
  | .list _ => "list"
  | .tuple _ => "tuple"
  | .dict _ => "dict"
def strD : PyData → Bool
  | .str _ => true
  | _ => false
def boolD : PyData → Bool
  | .bool _ => true
  | _ => false
theorem Dt.ty {K : PySem.W.Frag} {H : Hp} {v : V} {d : PyData} (h : Dt K H v d) : TyX K H v (.type (tyD d)) := by
  cases h with
  | non => exact .base .non
  | bl b => exact .base (.bl b)
  | int i => exact .base (.int i)
  | str x => exact .base (.str x)
  | lst q _ =>
    rcases q with (q | ⟨o, q⟩) | ⟨o, its, n, hk, hc, _⟩
    · exact .base (.lst q)
    · exact .base (.frz q)
    · exact .kList hk hc
  | tup q _ =>
    rcases q with (q | ⟨o, q⟩) | ⟨o, its, n, hk, hc, _⟩
    · exact .base (.tup q)
    · exact .fTuple q
    · exact .kTuple hk hc
  | dct q _ _ => exact .base (.dK q)
theorem kit_str {K : PySem.W.Frag} (d : PyData) : PySem.W.kitOne K (.type (tyD d)) (.type "str") = some (strD d) :=
  match d with
  | PyData.none => kit_ty (a := "NoneType") (b := "str") (r := false) (by decide +kernel)
  | .bool _ => kit_ty (a := "bool") (b := "str") (r := false) (by decide +kernel)
  | .int _ => kit_ty (a := "int") (b := "str") (r := false) (by decide +kernel)
  | .str _ => kit_ty (a := "str") (b := "str") (r := true) (by decide +kernel)
  | .list _ => kit_ty (a := "list") (b := "str") (r := false) (by decide +kernel)
  | .tuple _ => kit_ty (a := "tuple") (b := "str") (r := false) (by decide +kernel)
  | .dict _ => kit_ty (a := "dict") (b := "str") (r := false) (by decide +kernel)
theorem kit_int {K : PySem.W.Frag} (d : PyData) : PySem.W.kitOne K (.type (tyD d)) (.type "int") = some (wholeD d || boolD d) :=
  match d with
  | PyData.none => kit_ty (a := "NoneType") (b := "int") (r := false) (by decide +kernel)
  | .bool _ => kit_ty (a := "bool") (b := "int") (r := true) (by decide +kernel)
  | .int _ => kit_ty (a := "int") (b := "int") (r := true) (by decide +kernel)
  | .str _ => kit_ty (a := "str") (b := "int") (r := false) (by decide +kernel)
  | .list _ => kit_ty (a := "list") (b := "int") (r := false) (by decide +kernel)
  | .tuple _ => kit_ty (a := "tuple") (b := "int") (r := false) (by decide +kernel)
  | .dict _ => kit_ty (a := "dict") (b := "int") (r := false) (by decide +kernel)
theorem kit_bool {K : PySem.W.Frag} (d : PyData) : PySem.W.kitOne K (.type (tyD d)) (.type "bool") = some (boolD d) :=
  match d with
  | PyData.none => kit_ty (a := "NoneType") (b := "bool") (r := false) (by decide +kernel)
  | .bool _ => kit_ty (a := "bool") (b := "bool") (r := true) (by decide +kernel)
  | .int _ => kit_ty (a := "int") (b := "bool") (r := false) (by decide +kernel)
  | .str _ => kit_ty (a := "str") (b := "bool") (r := false) (by decide +kernel)
  | .list _ => kit_ty (a := "list") (b := "bool") (r := false) (by decide +kernel)
  | .tuple _ => kit_ty (a := "tuple") (b := "bool") (r := false) (by decide +kernel)
  | .dict _ => kit_ty (a := "dict") (b := "bool") (r := false) (by decide +kernel)
theorem same_upd {H : Hp} {p : Addr} {o : HO} (h : H p = none) : Same H (upd H p o) := fun b x e => by
  rw [upd_ne (ne_of_none e h)]
  exact e
mutual
theorem Dt.same {K : PySem.W.Frag} {H H' : Hp} (e : Same H H') : ∀ {v : V} (d : PyData), Dt K H v d → Dt K H' v d
  | _, .none, h => by cases h; exact .non
  | _, .bool _, h => by cases h; exact .bl _
  | _, .int _, h => by cases h; exact .int _
  | _, .str _, h => by cases h; exact .str _
  | _, .list ds, h => by
    cases h with
    | lst q a => exact .lst (e.seq q) (DtAll.same e ds a)
  | _, .tuple ds, h => by
    cases h with
    | tup q a =>
      refine .tup ?_ (DtAll.same e ds a)
      rcases q with (q | ⟨o, q⟩) | q
      · exact .inl (.inl (e _ _ q))
      · exact .inl (.inr ⟨o, e _ _ q⟩)
      · exact .inr q
  | _, .dict ps, h => by
    cases h with
    | dct q a b => exact .dct (e _ _ q) a b
theorem DtAll.same {K : PySem.W.Frag} {H H' : Hp} (e : Same H H') : ∀ {vs : List V} (ds : List PyData), DtAll K H vs ds → DtAll K H' vs ds
  | _, [], h => by cases h; exact .nil
  | _, d :: ds, h => by
    cases h with
    | cons a b => exact .cons (Dt.same e d a) (DtAll.same e ds b)
end
theorem iteNot {b : Bool} {A B : Prop} (e : ¬ b = true) (h : B) : if b = true then A else B := by
  rw [if_neg e]
  exact h
theorem letters_abc : (("abcdefghijklmnopqrstuvwxyz" : String) : Str).cps.toList = abc := by decide +kernel
/-- a text that is short enough -/
def ShortD (d : PyData) : Prop := ∀ z, d = .str z → z.length ≤ 1000
theorem small_line {n : Nat} (h : n ≤ 1000) : n ≤ sizeLine := Nat.le_of_lt (small1000 h)
/-! ### written data -/
theorem PE.of {X : Cx} {e : Expr} {t t' : TE} (h : PE X e t) (i : ∀ σ H Q, t' σ H Q → t σ H Q) : PE X e t' :=
  ⟨fun pins s σ H Q I q => h.run pins s σ H Q I (i σ H Q q)⟩
theorem PA.of {X : Cx} {es : List Expr} {t t' : TA} (h : PA X es t) (i : ∀ σ H Q, t' σ H Q → t σ H Q) : PA X es t' :=
  ⟨fun pos pins s σ H Q I q => h.run pos pins s σ H Q I (i σ H Q q)⟩
/-- what stands in H' and did not in H -/
def minus (H' H : Hp) : Hp := fun b => if H b = none then H' b else none
theorem minus_some {H' H : Hp} {b : Addr} {o : HO} (h : minus H' H b = some o) : H b = none ∧ H' b = some o := by
  unfold minus at h
  split at h
  · rename_i c
    exact ⟨c, h⟩
  · cases h
theorem minus_mk {H' H : Hp} {b : Addr} {o : HO} (h : H b = none) (h' : H' b = some o) : minus H' H b = some o := by
  unfold minus
  rw [if_pos h]
  exact h'
theorem minus_sub {H' H : Hp} : Same (minus H' H) H' := fun _ _ e => (minus_some e).2
theorem minus_l {H H1 H2 : Hp} (s : Same H1 H2) : Same (minus H1 H) (minus H2 H) := fun b o e => minus_mk (minus_some e).1 (s b o (minus_some e).2)
theorem minus_r {H H1 H2 : Hp} (s : Same H H1) : Same (minus H2 H1) (minus H2 H) := fun b o e => minus_mk (s.free (minus_some e).1) (minus_some e).2
theorem minus_at {H H1 : Hp} {p : Addr} {o : HO} (s : Same H H1) (h : H1 p = none) : minus (upd H1 p o) H p = some o := minus_mk (s.free h) upd_same
/-- an expression that gives the datum d, of new objects alone, all else as it was -/
def tLit (K : PySem.W.Frag) (d : PyData) : TE := fun _ H Q => ∀ v H', Same H H' → Dt K (minus H' H) v d → Q v H'
def tLits (K : PySem.W.Frag) (ds : List PyData) : TA := fun _ H Q => ∀ vs H', Same H H' → DtAll K (minus H' H) vs ds → Q vs H'
theorem DtAll.len {K : PySem.W.Frag} {H : Hp} : ∀ {vs : List V} {ds : List PyData}, DtAll K H vs ds → vs.length = ds.length
  | _, _, .nil => rfl
  | _, _, .cons _ t => by rw [List.length_cons, List.length_cons, DtAll.len t]
section
variable {X : Cx} {pos : Pos} {j : Nat} {e : Expr} {es : List Expr} {d : PyData} {ds : List PyData}
theorem l_non {j} : PE X (.Constant .none j pos) (tLit X.K .none) := PE.of pe_non fun _ H _ q => q _ H (Same.refl _) .non
theorem l_bl {b j} : PE X (.Constant (.bool b) j pos) (tLit X.K (.bool b)) := PE.of pe_bl fun _ H _ q => q _ H (Same.refl _) (.bl _)
theorem l_int {i j} : PE X (.Constant (.int i) j pos) (tLit X.K (.int i)) := PE.of pe_int fun _ H _ q => q _ H (Same.refl _) (.int _)
theorem l_str {x j} : PE X (.Constant (.str x) j pos) (tLit X.K (.str x)) := PE.of pe_str fun _ H _ q => q _ H (Same.refl _) (.str _)
theorem l_neg {i j} {p : Pos} : PE X (.UnaryOp .USub (.Constant (.int i) j p) pos) (tLit X.K (.int (-i))) := PE.of (pe_un un_neg pe_int) fun _ H _ q => ⟨i, rfl, q _ H (Same.refl _) (.int _)⟩
theorem ls_nil : PA X [] (tLits X.K []) := PA.of pa_nil fun _ H _ q => q _ H (Same.refl _) .nil
theorem ls_cons (h : PE X e (tLit X.K d)) (hs : PA X es (tLits X.K ds)) (hx : starEach (e :: es) X.env = (false, eval e X.env) :: starEach es X.env := by rfl) : PA X (e :: es) (tLits X.K (d :: ds)) :=
  PA.of (pa_cons h hs hx) fun _ _ _ q v H1 s1 h1 vs H2 s2 h2 => q (v :: vs) H2 (s1.trans s2) (.cons (Dt.same (minus_l s2) _ h1) (DtAll.same (minus_r s1) _ h2))
theorem l_lst (hs : PA X es (tLits X.K ds)) (hz : ds.length ≤ 1000 := by decide) : PE X (.List es pos) (tLit X.K (.list ds)) :=
  PE.of (pe_lst hs) fun _ _ _ q vs H1 s1 h1 => ⟨by rw [h1.len]; exact small_line hz, fun p hp => q _ _ (s1.trans (same_upd hp)) (.lst (.inl (.inl (minus_at s1 hp))) (DtAll.same (minus_l (same_upd hp)) _ h1))⟩
theorem l_tup {k} (hs : PA X es (tLits X.K ds)) (hz : ds.length ≤ 1000 := by decide) : PE X (.Tuple es k pos) (tLit X.K (.tuple ds)) :=
  PE.of (pe_tup hs) fun _ _ _ q vs H1 s1 h1 => ⟨by rw [h1.len]; exact small_line hz, fun p hp => q _ _ (s1.trans (same_upd hp)) (.tup (.inl (.inl (minus_at s1 hp))) (DtAll.same (minus_l (same_upd hp)) _ h1))⟩
theorem l_dct0 : PE X (.Dict [] [] pos) (tLit X.K (.dict [])) :=
  PE.of pe_dnewK fun _ _ _ q p hp => q _ _ (same_upd hp) (.dct (minus_at (Same.refl _) hp) .nil .nil)
theorem l_dctS {z i j1 j2} {p1 p2 : Pos} : PE X (.Dict [some (.Constant (.str z) j1 p1)] [.Constant (.int i) j2 p2] pos) (tLit X.K (.dict [(.str z, .int i)])) :=
  PE.of (pe_disp (pps_cons pe_str pe_int pps_nil) (by rfl) (by rfl) (fun z => by cases z) (by show 1 ≤ 15; decide)) fun _ _ _ q p hp =>
    ⟨upd_same, [(.inr z, .int i)], rfl, by show 1 ≤ 15; decide, by
      rw [upd_upd]
      exact q _ _ (same_upd hp) (.dct (minus_at (Same.refl _) hp) (.cons (.str z) .nil) (.cons (.int i) .nil))⟩
theorem l_dctI {z i j1 j2} {p1 p2 : Pos} : PE X (.Dict [some (.Constant (.int i) j1 p1)] [.Constant (.str z) j2 p2] pos) (tLit X.K (.dict [(.int i, .str z)])) :=
  PE.of (pe_disp (pps_cons pe_int pe_str pps_nil) (by rfl) (by rfl) (fun z => by cases z) (by show 1 ≤ 15; decide)) fun _ _ _ q p hp =>
    ⟨upd_same, [(.inl i, .str z)], rfl, by show 1 ≤ 15; decide, by
      rw [upd_upd]
      exact q _ _ (same_upd hp) (.dct (minus_at (Same.refl _) hp) (.cons (.int i) .nil) (.cons (.str z) .nil))⟩
/-- a written list of data as a list -/
def tLitL (K : PySem.W.Frag) (ds : List PyData) : TE := fun _ H Q => ∀ l xs H', Same H H' → H l = none → H' l = some (.lst xs) → DtAll K (minus H' H) xs ds → Q (.ref l) H'
theorem l_list (hs : PA X es (tLits X.K ds)) (hz : ds.length ≤ 1000 := by decide) : PE X (.List es pos) (tLitL X.K ds) :=
  PE.of (pe_lst hs) fun _ _ _ q vs H1 s1 h1 => ⟨by rw [h1.len]; exact small_line hz, fun p hp => q p vs _ (s1.trans (same_upd hp)) (s1.free hp) upd_same (DtAll.same (minus_l (same_upd hp)) _ h1)⟩
end
theorem DtAll.append {K : PySem.W.Frag} {H : Hp} : ∀ {vs us : List V} {ds es : List PyData}, DtAll K H vs ds → DtAll K H us es → DtAll K H (vs ++ us) (ds ++ es)
  | _, _, _, _, .nil, h => h
  | _, _, _, _, .cons a t, h => .cons a (DtAll.append t h)
theorem DtAll.mem {K : PySem.W.Frag} {H : Hp} : ∀ {vs : List V} {ds : List PyData} {v : V}, DtAll K H vs ds → v ∈ vs → ∃ d, d ∈ ds ∧ Dt K H v d
  | _, _, _, .nil, h => by cases h
  | _, _, _, .cons a t, h => by
    rcases List.mem_cons.mp h with e | e
    · subst e
      exact ⟨_, List.mem_cons_self, a⟩
    · obtain ⟨d, h1, h2⟩ := DtAll.mem t e
      exact ⟨d, List.mem_cons_of_mem _ h1, h2⟩
/-- an item by a number in the bounds -/
theorem pick {α : Type} {xs : List α} {i : Int} (h0 : 0 ≤ i) (h1 : i < xs.length) : ∃ v, atI xs i = some v ∧ v ∈ xs := by
  obtain ⟨n, rfl⟩ := Int.eq_ofNat_of_zero_le h0
  have hn : n < xs.length := by omega
  exact ⟨xs[n], atI_nat (List.getElem?_eq_getElem hn), List.getElem_mem hn⟩
/-- a pot: two numbers -/
def Pot (H : Hp) (p : Addr) : Prop := ∃ x y : Int, H p = some (.lst [.int x, .int y]) ∧ 0 ≤ x ∧ 0 ≤ y ∧ y < 2147483648
/-- all but p as it was -/
def But (p : Addr) (H H' : Hp) : Prop := ∀ b o, b ≠ p → H b = some o → H' b = some o
theorem But.refl (p : Addr) (H : Hp) : But p H H := fun _ _ _ e => e
theorem But.trans {p : Addr} {H H1 H2 : Hp} (a : But p H H1) (b : But p H1 H2) : But p H H2 := fun c o n e => b c o n (a c o n e)
theorem But.new {p q : Addr} {H : Hp} {o : HO} (h : H q = none) : But p H (upd H q o) := fun b x _ e => same_upd h b x e
theorem But.at {p : Addr} {H : Hp} {o : HO} : But p H (upd H p o) := fun b x n e => by rw [upd_ne n]; exact e
theorem Pot.new {p q : Addr} {H : Hp} {o : HO} (h : H q = none) (P : Pot H p) : Pot (upd H q o) p := by
  obtain ⟨x, y, e, r⟩ := P
  exact ⟨x, y, same_upd h _ _ e, r⟩
theorem Pot.but {p q : Addr} {H H' : Hp} (P : Pot H p) (b : But q H H') (n : p ≠ q) : Pot H' p := by
  obtain ⟨x, y, e, r⟩ := P
  exact ⟨x, y, b _ _ n e, r⟩
def LitM (m : Int) : Prop := 0 < m ∧ m.natAbs.log2 < 9000
/-- all but p -/
def away (p : Addr) (H : Hp) : Hp := fun b => if b = p then none else H b
theorem away_some {p b : Addr} {H : Hp} {o : HO} (h : away p H b = some o) : b ≠ p ∧ H b = some o := by
  unfold away at h
  split at h
  · cases h
  · rename_i c
    exact ⟨c, h⟩
theorem away_mk {p b : Addr} {H : Hp} {o : HO} (n : b ≠ p) (h : H b = some o) : away p H b = some o := by
  unfold away
  rw [if_neg n]
  exact h
theorem But.away {p : Addr} {H H' : Hp} (b : But p H H') : Same (away p H) (away p H') := fun c o e => away_mk (away_some e).1 (b c o (away_some e).1 (away_some e).2)
theorem away_sub {p : Addr} {H : Hp} : Same (away p H) H := fun _ _ e => (away_some e).2
/-! ### texts that are drawn -/
def Tx (n : Nat) (z : Str) : Prop := z.length ≤ n ∧ ∀ c ∈ z.cps.toList, c < 128
theorem Tx.mono {n m : Nat} {z : Str} (h : Tx n z) (hn : n ≤ m) : Tx m z := ⟨Nat.le_trans h.1 hn, h.2⟩
theorem Tx.app {n m : Nat} {z y : Str} (h : Tx n z) (g : Tx m y) : Tx (n + m) (z ++ y) := by
  refine ⟨by rw [Str.length_append]; exact Nat.add_le_add h.1 g.1, fun c hc => ?_⟩
  rw [Str.cps_append, Array.toList_append, List.mem_append] at hc
  exact hc.elim (h.2 c) (g.2 c)
theorem Tx.cut {n : Nat} {z : Str} (h : Tx n z) (lo hi : Option Int) : Tx n (cutS z lo hi) :=
  ⟨Nat.le_trans (cutS_length z lo hi) h.1, fun c hc => h.2 c (List.mem_of_mem_drop (List.mem_of_mem_take hc))⟩
theorem joinL_ones : ∀ cs : List Nat, TL.joinL [] (cs.map fun c => [c]) = cs
  | [] => rfl
  | [_] => rfl
  | c :: d :: r => by
    show [c] ++ ([] ++ TL.joinL [] ((d :: r).map fun c => [c])) = c :: d :: r
    rw [joinL_ones (d :: r)]
    rfl
theorem join_ones (cs : List Nat) : (Txt.join "" (cs.map fun c => (⟨#[c]⟩ : Str))).cps.toList = cs := by
  rw [TL.join_eq]
  have h := TL.tl_join "" (cs.map fun c => (⟨#[c]⟩ : Str))
  have e : (cs.map fun c => (⟨#[c]⟩ : Str)).map TL.tl = cs.map fun c => [c] := by
    rw [List.map_map]
    rfl
  rw [e] at h
  exact h.trans (joinL_ones cs)
theorem Tx.join {cs : List Nat} {n : Nat} (hn : cs.length ≤ n) (h : ∀ c ∈ cs, c < 128) : Tx n (Txt.join "" (cs.map fun c => (⟨#[c]⟩ : Str))) := by
  have e := join_ones cs
  refine ⟨?_, fun c hc => h c (e ▸ hc)⟩
  show (Txt.join "" (cs.map fun c => (⟨#[c]⟩ : Str))).cps.size ≤ n
  rw [← Array.length_toList, e]
  exact hn
theorem lens_ones : ∀ cs : List Nat, ((cs.map fun c => (⟨#[c]⟩ : Str)).map (·.length)).sum = cs.length
  | [] => rfl
  | c :: r => by
    show 1 + ((r.map fun c => (⟨#[c]⟩ : Str)).map (·.length)).sum = r.length + 1
    rw [lens_ones r]
    omega
theorem litM (m : Int) (h : 0 < m) (h2 : m < 2 ^ 300) : LitM m := by
  refine ⟨h, ?_⟩
  have a : m.natAbs < 2 ^ 300 := by omega
  exact Nat.lt_trans (PySem.Flt.log2_lt_of (by decide) a) (by decide)
theorem same_but {p : Addr} {H H' : Hp} (s : Same H H') : But p H H' := fun b o _ e => s b o e
theorem Pot.same {p : Addr} {H H' : Hp} (h : Pot H p) (s : Same H H') : Pot H' p := by
  obtain ⟨x, y, e, r⟩ := h
  exact ⟨x, y, s _ _ e, r⟩
end Rc

namespace Rc
open PySem PySem.Spec PyProof.Rows L2
def topS (i : Nat) : Stmt := PySem.Challenge.pw_ringclear_k43_refused_in_order.main.body.getD i (.Pass ⟨0, 0, 0, 0⟩)
section
variable {P : Program} {w : World} {K : PySem.W.Frag} {mg : Str → Option Value} {base : Heap}
/-! ### is_name -/
abbrev sName : Stmt := topS 14
theorem scName : FnScope ["thing", "sign"] ["thing"] (defScope sName) := ⟨rfl, rfl, rfl, by decide +kernel, rfl, by decide +kernel, by decide +kernel⟩
def spBool (K : PySem.W.Frag) (f : PyData → Bool) : Sp := fun vs H Q _ => ∃ v d, vs = [v] ∧ Dt K H v d ∧ ShortD d ∧ ∀ H', Same H H' → Q (.bl (f d)) H'
structure Blt (mg : Str → Option Value) : Prop where
  isi : mg "isinstance" = none
  str : mg "str" = none
  int : mg "int" = none
  bool : mg "bool" = none
  len : mg "len" = none
  all : mg "all" = none
theorem ok_name {f : Addr} {fd : FuncData} {k : Nat} (F : Fun K "is_name" "is_name" sName f fd) (B : Blt mg)
    (gL : ∃ t, mg "LETTERS" = some (.str "abcdefghijklmnopqrstuvwxyz" t)) (gM : ∃ t, mg "LONGEST" = some (.int 8 t)) :
    FnOk P w K mg base CX0 (k + 1) f fd ["thing"] (spBool K nameD) := by
  obtain ⟨tL, gL⟩ := gL
  obtain ⟨tM, gM⟩ := gM
  refine F.ok scName (fun vs H Q E h => ?_) (fun cdv A outer s H vs Q E hr h => ?_)
  · obtain ⟨v, d, rfl, _⟩ := h
    rfl
  · obtain ⟨v, d, rfl, hd, hz, q⟩ := h
    refine ⟨_, pss_cons (ps_if (pt_not (pt_val (pe_callB call_isi (by rfl) B.isi (by decide +kernel) (pa_cons (pv 0) (pa_cons (pe_bltn (v := .ty "str") (by rfl) B.str (by decide +kernel) rfl) pa_nil)))))
        (pss_one (ps_ret pe_bl)) pss_nil)
      (pss_cons (ps_if (PW.pt (pw_or (pt_cmpR op_lt (pe_callB call_len_str (by rfl) B.len PySem.boot_len (pa_cons (pv 0) pa_nil)) pe_int (nomark _))
          (pw_or1 (pt_cmpR op_gt (pe_callB call_len_str (by rfl) B.len PySem.boot_len (pa_cons (pv 0) pa_nil)) (pe_glob (v := .int 8) (by rfl) gM ⟨_, rfl⟩) (nomark _)))))
        (pss_one (ps_ret pe_bl)) pss_nil)
      (pss_one (ps_ret (pe_callB (cr_all rfl) (by rfl) B.all (by decide +kernel) (pa_cons
        (pe_lc (own := [("sign", 1)]) (g := gName 1) (tt := tYes) rfl scName.nd (pi_str (pv 0)) (blkOk_by (N := ["thing", "sign"]) (sc := defScope sName) (own := [("sign", 1)]) (by decide +kernel))
          (fun _ _ _ _ _ => pg_name (i := 1) scName.nd rfl (.inl rfl)) (fun _ _ _ _ _ => pts_nil)
          (fun _ _ _ _ _ => pe_cmpR op_in_sign (pv 1) (pe_glob (v := .str "abcdefghijklmnopqrstuvwxyz") (by rfl) gL ⟨_, rfl⟩) (by rfl))) pa_nil))))), ?_⟩
    refine ⟨v, rfl, v, .ty "str", _, _, strD d, rfl, .ty "str", hd.ty, kit_str d, _, rfl, ?_⟩
    cases hd with
    | str z =>
      refine iteF ?_
      have hz1 := hz z rfl
      have hz2 := small_line hz1
      refine ⟨.str z, rfl, z, rfl, hz2, _, _, rfl, rfl, _, rfl, ite2 (fun e => ?_) (fun e => ?_)⟩
      · refine iteT ?_
        have e1 : (z.length : Int) < 1 := of_decide_eq_true e
        have en : nameD (.str z) = false := by
          show nameT z = false
          unfold nameT
          rw [decide_eq_false (show ¬ 1 ≤ z.length by omega)]
          rfl
        rw [en] at q
        exact q _ (Same.refl _)
      · have e1 : ¬ (z.length : Int) < 1 := fun c => e (decide_eq_true c)
        refine ⟨.str z, rfl, z, rfl, hz2, _, _, rfl, rfl, _, rfl, ite2 (fun e2 => ?_) (fun e2 => ?_)⟩
        · have e3 : (8 : Int) < z.length := of_decide_eq_true e2
          have en : nameD (.str z) = false := by
            show nameT z = false
            unfold nameT
            rw [decide_eq_false (show ¬ z.length ≤ 8 by omega), Bool.and_false]
            rfl
          rw [en] at q
          exact q _ (Same.refl _)
        · have e3 : ¬ (8 : Int) < z.length := fun c => e2 (decide_eq_true c)
          refine ⟨.str z, rfl, z, rfl, fun D hD => lc_it walk_str (fun i H' => Same H H' ∧ H' D = some (.lst ((z.cps.toList.take i).map fun c => .bl (decide (c ∈ abc)))))
            ⟨same_upd hD, upd_same⟩ (fun _ _ _ _ => trivial) (fun i x H1 H2 hi hP hY => ?_) (fun H1 hP => ?_)⟩
          · obtain ⟨rfl, c, hc, rfl⟩ := hY
            refine ⟨rfl, .str ⟨#[c]⟩, rfl, c, _, rfl, rfl, _, hP.2, ?_, ?_, ?_⟩
            · rw [List.length_map, List.length_take]
              exact Nat.lt_of_le_of_lt (Nat.min_le_left _ _) (small1000 (by have : z.cps.size = z.length := rfl; omega))
            · intro b o eb
              rw [upd_ne (ne_of_none eb hD)]
              exact hP.1 b o eb
            · rw [upd_same, List.take_add_one, List.map_append]
              have g : z.cps.toList[i]? = some c := by rw [Array.getElem?_toList]; exact hc
              rw [g, letters_abc]
              rfl
          · refine ⟨D, z.cps.toList.map fun c => decide (c ∈ abc), rfl, .inl (.inl ?_), ?_⟩
            · have ez : z.cps.size = z.cps.toList.length := rfl
              rw [hP.2, ez, List.take_length, List.map_map]
              rfl
            · have en : nameD (.str z) = (z.cps.toList.map fun c => decide (c ∈ abc)).all id := by
                show nameT z = _
                unfold nameT
                rw [decide_eq_true (show 1 ≤ z.length by omega), decide_eq_true (show z.length ≤ 8 by omega), List.all_map]
                rfl
              rw [← en]
              exact q _ hP.1
    | _ => exact iteT (q _ (Same.refl _))
/-! ### is_whole, is_amount -/
abbrev sWhole : Stmt := topS 15
theorem scWhole : FnScope ["thing"] ["thing"] (defScope sWhole) := ⟨rfl, rfl, rfl, by decide +kernel, rfl, by decide +kernel, by decide +kernel⟩
theorem whole_eq (d : PyData) : (if (wholeD d || boolD d) = true then !boolD d else false) = wholeD d := by cases d <;> rfl
theorem ok_whole {f : Addr} {fd : FuncData} {k : Nat} (F : Fun K "is_whole" "is_whole" sWhole f fd) (B : Blt mg) :
    FnOk P w K mg base CX0 (k + 1) f fd ["thing"] (spBool K wholeD) := by
  refine F.ok scWhole (fun vs H Q E h => ?_) (fun cdv A outer s H vs Q E hr h => ?_)
  · obtain ⟨v, d, rfl, _⟩ := h
    rfl
  · obtain ⟨v, d, rfl, hd, hz, q⟩ := h
    refine ⟨_, pss_one (ps_ret (pe_and (pe_callB call_isi (by rfl) B.isi (by decide +kernel) (pa_cons (pv 0) (pa_cons (pe_bltn (v := .ty "int") (by rfl) B.int (by decide +kernel) rfl) pa_nil)))
      (pe_one (pe_not (pe_callB call_isi (by rfl) B.isi (by decide +kernel) (pa_cons (pv 0) (pa_cons (pe_bltn (v := .ty "bool") (by rfl) B.bool (by decide +kernel) rfl) pa_nil))))))), ?_⟩
    refine ⟨v, rfl, v, .ty "int", _, _, _, rfl, .ty "int", hd.ty, kit_int d, _, rfl, ?_⟩
    have e := whole_eq d
    have q1 := q H (Same.refl _)
    cases c : (wholeD d || boolD d) with
    | true =>
      rw [c, if_pos rfl] at e
      exact iteT ⟨v, rfl, v, .ty "bool", _, _, _, rfl, .ty "bool", hd.ty, kit_bool d, _, rfl, by rw [e]; exact q1⟩
    | false =>
      rw [c, if_neg Bool.false_ne_true] at e
      exact iteF (by rw [e]; exact q1)
abbrev sAmount : Stmt := topS 16
theorem scAmount : FnScope ["thing"] ["thing"] (defScope sAmount) := ⟨rfl, rfl, rfl, by decide +kernel, rfl, by decide +kernel, by decide +kernel⟩
theorem ok_amount {f fW : Addr} {fd fdW : FuncData} {k : Nat} (F : Fun K "is_amount" "is_amount" sAmount f fd) (FW : Fun K "is_whole" "is_whole" sWhole fW fdW)
    (bW : Binds K fdW ["thing"] []) (gW : mg "is_whole" = some (.ref fW)) (B : Blt mg) :
    FnOk P w K mg base CX0 (k + 2) f fd ["thing"] (spBool K amountD) := by
  have GW : FnOk P w K mg base CX0 (k + 1) fW fdW ["thing"] (spBool K wholeD) := ok_whole FW B
  refine F.ok scAmount (fun vs H Q E h => ?_) (fun cdv A outer s H vs Q E hr h => ?_)
  · obtain ⟨v, d, rfl, _⟩ := h
    rfl
  · obtain ⟨v, d, rfl, hd, hz, q⟩ := h
    refine ⟨_, pss_one (ps_ret (pe_and (pe_call GW hr (by rfl) gW FW.kp bW .nil pass0 (pa_cons (pv 0) pa_nil)) (pe_one (pe_cmpR op_ge (pv 0) pe_int (nomark _))))), ?_⟩
    refine ⟨v, rfl, v, d, rfl, hd, hz, fun H' sm => ⟨_, rfl, ?_⟩⟩
    have q1 := q H' sm
    cases hd with
    | int i => exact iteT ⟨_, rfl, i, 1, rfl, rfl, q1⟩
    | _ => exact iteF q1
end
end Rc

namespace Rc
open PySem PySem.Spec PyProof.Rows L2
section
variable {P : Program} {w : World} {K : PySem.W.Frag} {mg : Str → Option Value} {base : Heap}
structure Blt2 (mg : Str → Option Value) : Prop where
  abs : mg "abs" = none
  max : mg "max" = none
  min : mg "min" = none
  divmod : mg "divmod" = none
  range : mg "range" = none
  repr : mg "repr" = none
/-! ### _law_pot -/
abbrev sPot : Stmt := topS 45
theorem scPot : FnScope ["_law_script", "_law_k", "_law_cell"] ["_law_script", "_law_k"] (defScope sPot) := ⟨rfl, rfl, rfl, by decide +kernel, rfl, by decide +kernel, by decide +kernel⟩
def spPot (K : PySem.W.Frag) : Sp := fun vs H Q _ => ∃ (a : Addr) (ns : List Int) (k : Int), vs = [.ref a, .int k] ∧ SqL K H a (ns.map V.int) ∧ 0 ≤ k ∧ k ≤ 1000 ∧
  ∀ p o, H p = none → Pot (upd H p o) p → Q (.ref p) (upd H p o)
theorem ok_pot {f : Addr} {fd : FuncData} {k : Nat} (F : Fun K "_law_pot" "_law_pot" sPot f fd) (B : Blt mg) (B2 : Blt2 mg) :
    FnOk P w K mg base CX0 (k + 1) f fd ["_law_script", "_law_k"] (spPot K) := by
  refine F.ok scPot (fun vs H Q E h => ?_) (fun cdv A outer s H vs Q E hr h => ?_)
  · obtain ⟨a, ns, k, rfl, _⟩ := h
    rfl
  · obtain ⟨a, ns, k, rfl, hS, k0, k1, q⟩ := h
    refine ⟨_, pss_cons (ps_set (i := 2) scPot.nd rfl (.inl rfl) pe_int)
      (pss_cons (ps_if (pt_cmpR op_lt (pv 1) (pe_callB call_len_seq (by rfl) B.len PySem.boot_len (pa_cons (pv 0) pa_nil)) (nomark _))
        (pss_one (ps_set (i := 2) scPot.nd rfl (.inl rfl) (pe_callB call_abs (by rfl) B2.abs (by decide +kernel) (pa_cons (pe_ix ix_list (pv 0) (pv 1) (fun _ _ => rfl)) pa_nil)))) pss_nil)
      (pss_one (ps_ret (pe_lst (pa_cons (pe_callB (call_max2 rfl) (by rfl) B2.max (by decide +kernel) (pa_cons pe_int (pa_cons (pe_op op_sub (pv 2) (pe_op op_pow pe_int pe_int)) pa_nil)))
        (pa_cons (pe_op op_add (pe_op op_mod (pe_op op_pow (pe_op op_add (pe_op op_add (pe_op op_mod (pv 2) pe_int) (pe_op op_mul pe_int (pv 1))) pe_int) pe_int) pe_int) pe_int) pa_nil)))))), ?_⟩
    have fin : ∀ c : Int, 0 ≤ c → ∃ v, ([some (.ref a), some (.int k), some (.int c)] : List (Option V))[2]? = some (some v) ∧ v = .int c := fun c _ => ⟨_, rfl, rfl⟩
    have three : ∀ c : Int, 0 ≤ c → 0 ≤ c % 2147483549 + 101 * k + 1 ∧ (c % 2147483549 + 101 * k + 1).natAbs < 2 ^ 64 := fun c h0 => by
      have a1 : 0 ≤ c % 2147483549 := Int.emod_nonneg _ (by decide)
      have a2 : c % 2147483549 < 2147483549 := Int.emod_lt_of_pos _ (by decide)
      omega
    refine ⟨_, rfl, .ref a, rfl, a, _, rfl, .inl hS, _, _, rfl, rfl, _, rfl, ite2 (fun e => ?_) (fun e => ?_)⟩
    · have e1 : k < (ns.map V.int).length := of_decide_eq_true e
      rw [List.length_map] at e1
      obtain ⟨n, rfl⟩ := Int.eq_ofNat_of_zero_le k0
      have hn : n < ns.length := by omega
      have g : (ns.map V.int)[n]? = some (.int ns[n]) := by
        rw [List.getElem?_map, List.getElem?_eq_getElem hn]
        rfl
      refine ⟨.ref a, rfl, .int n, rfl, a, _, _, _, rfl, rfl, hS, atI_nat g, _, rfl, ?_⟩
      have c0 : 0 ≤ (if ns[n] < 0 then -ns[n] else ns[n]) := by split <;> omega
      generalize (if ns[n] < 0 then -ns[n] else ns[n]) = c at c0
      obtain ⟨t1, t2⟩ := three c c0
      refine ⟨.int c, rfl, _, _, rfl, rfl, ⟨by decide, by decide, by decide⟩, _, _, rfl, rfl, _, _, rfl, .int c, rfl, _, _, rfl, rfl, (show (0 : Int) < 2147483549 by decide), .int n, rfl, _, _, rfl, rfl, .inl ⟨by decide, by decide⟩, _, _, rfl, rfl, _, _, rfl, rfl, _, _, rfl, rfl, ⟨by decide, by decide, t2⟩, _, _, rfl, rfl, (show (0 : Int) < 2147483543 by decide), _, _, rfl, rfl, by show 2 ≤ sizeLine; decide, fun p np => ?_⟩
      refine q p _ np ⟨_, _, upd_same, ?_, ?_, ?_⟩
      · split <;> omega
      · have := Int.emod_nonneg ((c % 2147483549 + 101 * n + 1) ^ (2 : Int).toNat) (show (2147483543 : Int) ≠ 0 by decide)
        omega
      · have := Int.emod_lt_of_pos ((c % 2147483549 + 101 * n + 1) ^ (2 : Int).toNat) (show (0 : Int) < 2147483543 by decide)
        omega
    · obtain ⟨t1, t2⟩ := three 0 (Int.le_refl _)
      refine ⟨.int 0, rfl, _, _, rfl, rfl, ⟨by decide, by decide, by decide⟩, _, _, rfl, rfl, _, _, rfl, .int 0, rfl, _, _, rfl, rfl, (show (0 : Int) < 2147483549 by decide), .int k, rfl, _, _, rfl, rfl, .inl ⟨by decide, by decide⟩, _, _, rfl, rfl, _, _, rfl, rfl, _, _, rfl, rfl, ⟨by decide, by decide, t2⟩, _, _, rfl, rfl, (show (0 : Int) < 2147483543 by decide), _, _, rfl, rfl, by show 2 ≤ sizeLine; decide, fun p np => ?_⟩
      refine q p _ np ⟨_, _, upd_same, ?_, ?_, ?_⟩
      · split <;> omega
      · have := Int.emod_nonneg (((0 : Int) % 2147483549 + 101 * k + 1) ^ (2 : Int).toNat) (show (2147483543 : Int) ≠ 0 by decide)
        omega
      · have := Int.emod_lt_of_pos (((0 : Int) % 2147483549 + 101 * k + 1) ^ (2 : Int).toNat) (show (0 : Int) < 2147483543 by decide)
        omega
/-! ### _law_take -/
abbrev sTake : Stmt := topS 46
theorem scTake : FnScope ["_law_pot_here", "_law_many", "_law_digit"] ["_law_pot_here", "_law_many"] (defScope sTake) := ⟨rfl, rfl, rfl, by decide +kernel, rfl, by decide +kernel, by decide +kernel⟩
def spTake : Sp := fun vs H Q _ => ∃ (p : Addr) (m : Int), vs = [.ref p, .int m] ∧ Pot H p ∧ LitM m ∧ ∀ d H', 0 ≤ d → d < m → Pot H' p → But p H H' → Q (.int d) H'
theorem ok_take {f : Addr} {fd : FuncData} {k : Nat} (F : Fun K "_law_take" "_law_take" sTake f fd) (B2 : Blt2 mg) :
    FnOk P w K mg base CX0 (k + 1) f fd ["_law_pot_here", "_law_many"] spTake := by
  refine F.ok scTake (fun vs H Q E h => ?_) (fun cdv A outer s H vs Q E hr h => ?_)
  · obtain ⟨a, m, rfl, _⟩ := h
    rfl
  · obtain ⟨p, m, rfl, ⟨x, y, hp, x0, y0, y1⟩, ⟨m0, m1⟩, q⟩ := h
    refine ⟨_, pss_cons (ps_if (pt_cmpR op_gt (pe_ix ix_list (pv 0) pe_int (fun _ _ => rfl)) pe_int (nomark _))
        (pss_cons (ps_asg (pe_callB call_divmodW (by rfl) B2.divmod (by decide +kernel) (pa_cons (pe_ix ix_list (pv 0) pe_int (fun _ _ => rfl)) (pa_cons (pv 1) pa_nil)))
            (pg_tup rfl (pgs_cons (pg_sub (pv 0) pe_int set_list) (pgs_cons (pg_name (i := 2) scTake.nd rfl (.inl rfl)) pgs_nil))))
          (pss_one (ps_ret (pv 2)))) pss_nil)
      (pss_cons (ps_asg (pe_op op_mod (pe_op op_add (pe_op op_mul (pe_ix ix_list (pv 0) pe_int (fun _ _ => rfl)) pe_int) pe_int) pe_int) (pg_sub (pv 0) pe_int set_list))
      (pss_one (ps_ret (pe_op op_mod (pe_op op_fdiv (pe_op op_mod (pe_op op_mul (pe_ix ix_list (pv 0) pe_int (fun _ _ => rfl)) (pe_ix ix_list (pv 0) pe_int (fun _ _ => rfl))) pe_int) pe_int) (pv 1))))), ?_⟩
    have sq : SqL K H p [.int x, .int y] := .inl (.inl hp)
    refine ⟨.ref p, rfl, p, _, 0, .int x, rfl, rfl, sq, rfl, _, _, rfl, rfl, _, rfl, ite2 (fun e => ?_) (fun e => ?_)⟩
    · have e1 : 0 < x := of_decide_eq_true e
      refine ⟨.ref p, rfl, p, _, 0, .int x, rfl, rfl, sq, rfl, .int m, rfl, x, m, rfl, ⟨m0, PyProof.noPylong_of_log2 m1⟩, fun T hT => ?_⟩
      refine ⟨T, _, rfl, .inl (.inl upd_same), rfl, _, _, rfl, .ref p, rfl, p, _, 0, 0, rfl, rfl, same_upd hT _ _ hp, rfl, _, _, rfl, rfl, ?_⟩
      refine ⟨_, rfl, q _ _ (Int.emod_nonneg _ (by omega)) (Int.emod_lt_of_pos _ m0) ⟨x / m, y, upd_same, Int.ediv_nonneg x0 (by omega), y0, y1⟩ ?_⟩
      exact (But.new hT).trans But.at
    · have c0 : 0 ≤ (y * 48271 + 10007) % 2147483587 := Int.emod_nonneg _ (by decide)
      have c1 : (y * 48271 + 10007) % 2147483587 < 2147483587 := Int.emod_lt_of_pos _ (by decide)
      refine ⟨.ref p, rfl, p, _, 1, .int y, rfl, rfl, sq, rfl, _, _, rfl, rfl, .inl ⟨by omega, by omega⟩, _, _, rfl, rfl, _, _, rfl, rfl, (show (0 : Int) < 2147483587 by decide), .ref p, rfl, p, _, 1, 1, rfl, rfl, hp, rfl, ?_⟩
      have sq2 : SqL K (upd H p (.lst ([V.int x, V.int y].set 1 (.int ((y * 48271 + 10007) % 2147483587))))) p [.int x, .int ((y * 48271 + 10007) % 2147483587)] := .inl (.inl upd_same)
      refine ⟨.ref p, rfl, p, _, 1, _, rfl, rfl, sq2, rfl, .ref p, rfl, p, _, 1, _, rfl, rfl, sq2, rfl, _, _, rfl, rfl, .inl ⟨by omega, by omega⟩, _, _, rfl, rfl, (show (0 : Int) < 2147483563 by decide), _, _, rfl, rfl, ⟨by decide, by decide⟩, .int m, rfl, _, _, rfl, rfl, m0, ?_⟩
      exact q _ _ (Int.emod_nonneg _ (by omega)) (Int.emod_lt_of_pos _ m0) ⟨x, _, upd_same, x0, c0, by omega⟩ But.at
/-- what the callers of _law_take have -/
structure HasTake (P : Program) (w : World) (K : PySem.W.Frag) (mg : Str → Option Value) (base : Heap) (f : Addr) (fd : FuncData) : Prop where
  ok : FnOk P w K mg base CX0 1 f fd ["_law_pot_here", "_law_many"] spTake
  g : mg "_law_take" = some (.ref f)
  kp : PySem.W.keepIn K (.ref f) = true
  b : Binds K fd ["_law_pot_here", "_law_many"] []
/-! ### _law_among -/
abbrev sAmong : Stmt := topS 49
theorem scAmong : FnScope ["_law_pot_here", "_law_some"] ["_law_pot_here", "_law_some"] (defScope sAmong) := ⟨rfl, rfl, rfl, by decide +kernel, rfl, by decide +kernel, by decide +kernel⟩
def spAmong : Sp := fun vs H Q _ => ∃ p v, vs = [.ref p, v] ∧ Pot H p ∧
  ((∃ z, v = .str z ∧ 0 < z.length ∧ z.length ≤ 1000 ∧ ∀ c H', c ∈ z.cps.toList → Pot H' p → But p H H' → Q (.str ⟨#[c]⟩) H') ∨
   (∃ a xs, v = .ref a ∧ a ≠ p ∧ H a = some (.lst xs) ∧ 0 < xs.length ∧ xs.length ≤ 1000 ∧ ∀ x H', x ∈ xs → Pot H' p → But p H H' → Q x H'))
theorem ok_among {f fT : Addr} {fd fdT : FuncData} (F : Fun K "_law_among" "_law_among" sAmong f fd) (B : Blt mg) (T : HasTake P w K mg base fT fdT) :
    FnOk P w K mg base CX0 2 f fd ["_law_pot_here", "_law_some"] spAmong := by
  refine F.ok scAmong (fun vs H Q E h => ?_) (fun cdv A outer s H vs Q E hr h => ?_)
  · obtain ⟨a, m, rfl, _⟩ := h
    rfl
  · obtain ⟨p, v, rfl, hp, h⟩ := h
    refine ⟨_, pss_one (ps_ret (pe_ix ix_seq (pv 1) (pe_call T.ok hr (by rfl) T.g T.kp T.b .nil pass0 (pa_cons (pv 0) (pa_cons (pe_callB call_len (by rfl) B.len PySem.boot_len (pa_cons (pv 1) pa_nil)) pa_nil))) (fun _ _ => rfl))), ?_⟩
    rcases h with ⟨z, rfl, z0, z1, q⟩ | ⟨a, xs, rfl, ne, ha, x0, x1, q⟩
    · have zl := small_line z1
      refine ⟨.str z, rfl, .ref p, rfl, .str z, rfl, .str z, z.length, rfl, ⟨zl, rfl⟩, p, z.length, rfl, hp, litM _ (by omega) (by omega), fun d H' d0 d1 hp' hb => ?_⟩
      have el : z.cps.toList.length = z.length := rfl
      obtain ⟨c, e1, e2⟩ := pick (xs := z.cps.toList) d0 (by rw [el]; exact d1)
      exact .inr (.inr ⟨z, d, c, rfl, rfl, zl, e1, q c H' e2 hp' hb⟩)
    · refine ⟨.ref a, rfl, .ref p, rfl, .ref a, rfl, .ref a, xs.length, rfl, .inl ⟨xs, .inl (.inl ha), rfl⟩, p, xs.length, rfl, hp, litM _ (by omega) (by omega), fun d H' d0 d1 hp' hb => ?_⟩
      obtain ⟨c, e1, e2⟩ := pick (xs := xs) d0 d1
      exact .inl ⟨a, xs, d, c, rfl, rfl, .inl (.inl (hb _ _ ne ha)), e1, q c H' e2 hp' hb⟩
structure HasAmong (P : Program) (w : World) (K : PySem.W.Frag) (mg : Str → Option Value) (base : Heap) (f : Addr) (fd : FuncData) : Prop where
  ok : FnOk P w K mg base CX0 2 f fd ["_law_pot_here", "_law_some"] spAmong
  g : mg "_law_among" = some (.ref f)
  kp : PySem.W.keepIn K (.ref f) = true
  b : Binds K fd ["_law_pot_here", "_law_some"] []
end
end Rc

namespace Rc
open PySem PySem.Spec PyProof.Rows L2
/-! ### what no list and no dict touches -/
def Fix : HO → Prop
  | .lst _ | .dK _ | .dT _ | .set _ _ => False
  | _ => True
/-- all but lists and dicts as it was -/
def Kp (H H' : Hp) : Prop := ∀ b o, H b = some o → Fix o → H' b = some o
theorem Kp.refl (H : Hp) : Kp H H := fun _ _ e _ => e
theorem Kp.trans {H H1 H2 : Hp} (a : Kp H H1) (b : Kp H1 H2) : Kp H H2 := fun c o e f => b c o (a c o e f) f
theorem Same.kp {H H' : Hp} (s : Same H H') : Kp H H' := fun b o e _ => s b o e
theorem But.kp {p : Addr} {H H' : Hp} {xs : List V} (s : But p H H') (h : H p = some (.lst xs)) : Kp H H' := fun b o e f => s b o (fun z => by
  rw [z, h] at e
  cases e
  exact f) e
/-- all tuples as they were -/
def TupO : HO → Prop
  | .tup _ | .frz _ _ => True
  | _ => False
def KT (H H' : Hp) : Prop := ∀ b o, H b = some o → TupO o → H' b = some o
theorem Kp.kt {H H' : Hp} (k : Kp H H') : KT H H' := fun b o e t => k b o e (by cases o <;> first | exact t.elim | exact trivial)
theorem kt_same {H H' : Hp} (s : Same H H') : KT H H' := fun b o e _ => s b o e
theorem KT.trans {H H1 H2 : Hp} (a : KT H H1) (b : KT H1 H2) : KT H H2 := fun c o e f => b c o (a c o e f) f
theorem kt_upd {H : Hp} {x : Addr} {o o' : HO} (h : H x = some o) (n : ¬ TupO o) : KT H (upd H x o') := fun b u e t => by
  have nb : b ≠ x := fun z => by
    rw [z, h] at e
    cases e
    exact n t
  rw [upd_ne nb]
  exact e
mutual
/-- no list, no dict in it -/
def tupD : PyData → Bool
  | .list _ | .dict _ => false
  | .tuple ds => tupDs ds
  | .none | .bool _ | .int _ | .str _ => true
def tupDs : List PyData → Bool
  | [] => true
  | d :: ds => tupD d && tupDs ds
end
mutual
theorem Dt.keepT {K : PySem.W.Frag} {H H' : Hp} (e : KT H H') : ∀ {v : V} (d : PyData), tupD d = true → Dt K H v d → Dt K H' v d
  | _, .none, _, h => by cases h; exact .non
  | _, .bool _, _, h => by cases h; exact .bl _
  | _, .int _, _, h => by cases h; exact .int _
  | _, .str _, _, h => by cases h; exact .str _
  | _, .list ds, t, h => by simp [tupD] at t
  | _, .dict ps, t, h => by simp [tupD] at t
  | _, .tuple ds, t, h => by
    cases h with
    | tup q a =>
      refine .tup ?_ (DtAll.keepT e ds (by simpa [tupD] using t) a)
      rcases q with (q | ⟨o, q⟩) | q
      · exact .inl (.inl (e _ _ q trivial))
      · exact .inl (.inr ⟨o, e _ _ q trivial⟩)
      · exact .inr q
theorem DtAll.keepT {K : PySem.W.Frag} {H H' : Hp} (e : KT H H') : ∀ {vs : List V} (ds : List PyData), tupDs ds = true → DtAll K H vs ds → DtAll K H' vs ds
  | _, [], _, h => by cases h; exact .nil
  | _, d :: ds, t, h => by
    cases h with
    | cons a b =>
      have t' : tupD d = true ∧ tupDs ds = true := by simpa [tupDs] using t
      exact .cons (Dt.keepT e d t'.1 a) (DtAll.keepT e ds t'.2 b)
end
theorem Dt.keep {K : PySem.W.Frag} {H H' : Hp} (e : Kp H H') {v : V} (d : PyData) (t : tupD d = true) (h : Dt K H v d) : Dt K H' v d := Dt.keepT e.kt d t h
theorem DtAll.keep {K : PySem.W.Frag} {H H' : Hp} (e : Kp H H') {vs : List V} (ds : List PyData) (t : tupDs ds = true) (h : DtAll K H vs ds) : DtAll K H' vs ds := DtAll.keepT e.kt ds t h
theorem tupDs_map {α : Type} {f : α → PyData} (h : ∀ x, tupD (f x) = true) : ∀ l : List α, tupDs (l.map f) = true
  | [] => rfl
  | x :: r => by
    rw [List.map_cons]
    simp only [tupDs, h x, tupDs_map h r, Bool.and_self]
theorem DtAll.drop {K : PySem.W.Frag} {H : Hp} : ∀ {vs : List V} {ds : List PyData} (n : Nat), DtAll K H vs ds → DtAll K H (vs.drop n) (ds.drop n)
  | _, _, 0, h => h
  | _, _, _ + 1, .nil => .nil
  | _, _, n + 1, .cons _ t => DtAll.drop n t
theorem DtAll.take {K : PySem.W.Frag} {H : Hp} : ∀ {vs : List V} {ds : List PyData} (n : Nat), DtAll K H vs ds → DtAll K H (vs.take n) (ds.take n)
  | _, _, 0, h => .nil
  | _, _, _ + 1, .nil => .nil
  | _, _, n + 1, .cons a t => .cons a (DtAll.take n t)
theorem DtAll.get {K : PySem.W.Frag} {H : Hp} : ∀ {vs : List V} {ds : List PyData} {n : Nat} {d : PyData}, DtAll K H vs ds → ds[n]? = some d → ∃ v, vs[n]? = some v ∧ Dt K H v d
  | _, _, _, _, .nil, e => by simp at e
  | _, _, 0, _, .cons a _, e => by
    simp at e
    subst e
    exact ⟨_, rfl, a⟩
  | _, _, n + 1, _, .cons _ t, e => by
    obtain ⟨v, h1, h2⟩ := DtAll.get (n := n) t (by simpa using e)
    exact ⟨v, by simpa using h1, h2⟩
theorem DtAll.rep {K : PySem.W.Frag} {H : Hp} {v : V} {d : PyData} (h : Dt K H v d) : ∀ n : Nat, DtAll K H (List.replicate n v) (List.replicate n d)
  | 0 => .nil
  | n + 1 => .cons h (DtAll.rep h n)
theorem DtAll.strs {K : PySem.W.Frag} {H : Hp} : ∀ zs : List Str, DtAll K H (zs.map V.str) (zs.map PyData.str)
  | [] => .nil
  | z :: r => .cons (.str z) (DtAll.strs r)
theorem DtAll.ints {K : PySem.W.Frag} {H : Hp} : ∀ zs : List Int, DtAll K H (zs.map V.int) (zs.map PyData.int)
  | [] => .nil
  | z :: r => .cons (.int z) (DtAll.ints r)
theorem DtAll.strs_eq {K : PySem.W.Frag} {H : Hp} : ∀ {vs : List V} {zs : List Str}, DtAll K H vs (zs.map PyData.str) → vs = zs.map V.str
  | _, [], h => by cases h; rfl
  | _, z :: r, h => by
    cases h with
    | cons a t =>
      cases a
      rw [DtAll.strs_eq t]
      rfl
theorem DtAll.ints_eq {K : PySem.W.Frag} {H : Hp} : ∀ {vs : List V} {zs : List Int}, DtAll K H vs (zs.map PyData.int) → vs = zs.map V.int
  | _, [], h => by cases h; rfl
  | _, z :: r, h => by
    cases h with
    | cons a t =>
      cases a
      rw [DtAll.ints_eq t]
      rfl
/-! ### rules by data -/
theorem Dt.tup_inv {K : PySem.W.Frag} {H : Hp} {v : V} {ds : List PyData} (h : Dt K H v (.tuple ds)) : ∃ a xs, v = .ref a ∧ SqT K H a xs ∧ DtAll K H xs ds := by
  cases h with
  | tup q a => exact ⟨_, _, rfl, q, a⟩
theorem Dt.lst_inv {K : PySem.W.Frag} {H : Hp} {v : V} {ds : List PyData} (h : Dt K H v (.list ds)) : ∃ a xs, v = .ref a ∧ SqL K H a xs ∧ DtAll K H xs ds := by
  cases h with
  | lst q a => exact ⟨_, _, rfl, q, a⟩
section
variable {X : Cx}
def rCatD (K : PySem.W.Frag) : R2 := fun x y H Q => ∃ ds es, Dt K H x (.tuple ds) ∧ Dt K H y (.tuple es) ∧ ds.length + es.length ≤ 1000 ∧ ∀ v H', Same H H' → Dt K H' v (.tuple (ds ++ es)) → Q v H'
theorem op_catD : OpR X (binaryOp .Add) (rCatD X.K) := by
  intro pins s σ H x y v u Q I rx ry h
  obtain ⟨ds, es, h1, h2, hz, q⟩ := h
  obtain ⟨a, xs, rfl, qa, da⟩ := h1.tup_inv
  obtain ⟨b, ys, rfl, qb, db⟩ := h2.tup_inv
  refine op_catA pins s σ H _ _ v u Q I rx ry ⟨a, b, xs, ys, rfl, rfl, qa, qb, small_line (by rw [da.len, db.len]; exact hz), fun e => ?_, fun _ e => ?_, fun _ _ p hp => ?_⟩
  · subst e
    cases da
    exact q _ H (Same.refl _) h2
  · subst e
    cases db
    rw [List.append_nil] at q
    exact q _ H (Same.refl _) h1
  · exact q _ _ (same_upd hp) (.tup (.inl (.inl upd_same)) ((DtAll.same (same_upd hp) _ da).append (DtAll.same (same_upd hp) _ db)))
/-- t[n], n from 0 on -/
def rIxD (K : PySem.W.Frag) : R2 := fun x y H Q => ∃ ds n d, Dt K H x (.tuple ds) ∧ y = .int (n : Nat) ∧ ds[n]? = some d ∧ ∀ v, Dt K H v d → Q v H
theorem ix_tupD : IxR X (rIxD X.K) := by
  intro value slice pins s σ H x y v u Q I rx ry h hs
  obtain ⟨ds, n, d, h1, rfl, e, q⟩ := h
  obtain ⟨a, xs, rfl, qa, da⟩ := h1.tup_inv
  obtain ⟨z, e1, e2⟩ := da.get e
  exact ix_tup value slice pins s σ H _ _ v u Q I rx ry ⟨a, xs, n, z, rfl, rfl, qa, atI_nat e1, q z e2⟩ hs
/-- t[:n], t[n:] -/
def rSlD (K : PySem.W.Frag) : V → Option Int → Option Int → Hp → VK → Prop := fun x lo hi H Q => ∃ ds, Dt K H x (.tuple ds) ∧
  ((∃ n : Nat, lo = none ∧ hi = some (n : Int) ∧ ∀ v H', Same H H' → Dt K H' v (.tuple (ds.take n)) → Q v H') ∨ (∃ n : Nat, lo = some (n : Int) ∧ hi = none ∧ ∀ v H', Same H H' → Dt K H' v (.tuple (ds.drop n)) → Q v H'))
theorem cut_take (xs : List V) (n : Nat) : cutV xs none (some (n : Int)) = xs.take n := by
  unfold cutV
  rw [HT.sIx_nat, HT.sIx_none]
  rw [List.drop_zero, Nat.sub_zero]
  by_cases h : n ≤ xs.length
  · rw [Nat.min_eq_left h]
  · rw [Nat.min_eq_right (by omega), List.take_length, List.take_of_length_le (by omega)]
theorem cut_drop (xs : List V) (n : Nat) : cutV xs (some (n : Int)) none = xs.drop n := by
  unfold cutV
  rw [HT.sIx_nat, HT.sIx_none]
  by_cases h : n ≤ xs.length
  · rw [Nat.min_eq_left h]
    exact List.take_of_length_le (by rw [List.length_drop]; omega)
  · rw [Nat.min_eq_right (by omega), List.drop_length, List.drop_of_length_le (by omega), List.take_nil]
theorem sl_tupD : SlR X (rSlD X.K) := by
  intro pins s σ H x v vl vu lo hi sl Q I rx hs pl pu h
  obtain ⟨ds, h1, h⟩ := h
  obtain ⟨a, xs, rfl, qa, da⟩ := h1.tup_inv
  rcases h with ⟨n, rfl, rfl, q⟩ | ⟨n, rfl, rfl, q⟩
  · refine sl_tupA pins s σ H _ v vl vu _ _ sl Q I rx hs pl pu ⟨a, xs, rfl, qa, fun e => ?_, fun _ p hp => ?_⟩
    · have e2 := e.2
      rw [HT.sIx_nat] at e2
      refine q _ H (Same.refl _) ?_
      rw [List.take_of_length_le (by rw [← da.len]; omega)]
      exact h1
    · rw [cut_take]
      exact q _ _ (same_upd hp) (.tup (.inl (.inl upd_same)) (DtAll.same (same_upd hp) _ (da.take n)))
  · refine sl_tupA pins s σ H _ v vl vu _ _ sl Q I rx hs pl pu ⟨a, xs, rfl, qa, fun e => ?_, fun _ p hp => ?_⟩
    · have e1 := e.1
      rw [HT.sIx_nat] at e1
      refine q _ H (Same.refl _) ?_
      rcases Nat.min_eq_zero_iff.mp e1 with z | z
      · rw [z]
        exact h1
      · have : ds = [] := List.eq_nil_of_length_eq_zero (by rw [← da.len]; exact z)
        subst this
        rw [List.drop_nil]
        exact h1
    · rw [cut_drop]
      exact q _ _ (same_upd hp) (.tup (.inl (.inl upd_same)) (DtAll.same (same_upd hp) _ (da.drop n)))
/-- list(t), tuple(l) of tuples and lists of data: a new list; a tuple -/
def rListD (K : PySem.W.Frag) : List V → Hp → VK → Prop := fun vs H Q => ∃ v ds, vs = [v] ∧ (Dt K H v (.tuple ds) ∨ Dt K H v (.list ds)) ∧ ∀ l xs, H l = none → DtAll K H xs ds → Q (.ref l) (upd H l (.lst xs))
theorem call_listD : CallR X (.type "list") (rListD X.K) := by
  intro pins s σ H xs us Q I r h
  obtain ⟨v, ds, rfl, h1, q⟩ := h
  rcases h1 with h1 | h1
  · obtain ⟨a, ys, rfl, qa, da⟩ := h1.tup_inv
    exact call_list_of pins s σ H _ us Q I r ⟨a, ys, rfl, .inr qa, fun l hl => q l ys hl da⟩
  · obtain ⟨a, ys, rfl, qa, da⟩ := h1.lst_inv
    exact call_list_of pins s σ H _ us Q I r ⟨a, ys, rfl, .inl qa, fun l hl => q l ys hl da⟩
def rTupD (K : PySem.W.Frag) : List V → Hp → VK → Prop := fun vs H Q => ∃ v ds, vs = [v] ∧ Dt K H v (.list ds) ∧ ∀ t H', Same H H' → Dt K H' t (.tuple ds) → Q t H'
theorem call_tupD : CallR X (.type "tuple") (rTupD X.K) := by
  intro pins s σ H xs us Q I r h
  obtain ⟨v, ds, rfl, h1, q⟩ := h
  obtain ⟨a, ys, rfl, qa, da⟩ := h1.lst_inv
  exact call_tuple_of pins s σ H _ us Q I r ⟨a, ys, rfl, .inl ⟨qa, fun l hl => q _ _ (same_upd hl) (.tup (.inl (.inl upd_same)) (DtAll.same (same_upd hl) _ da))⟩⟩
end
open AutoSeq1 (wpAny_loadPart') in
theorem tuple_mul1 (l : Addr) (items : Array Value) (n : Nat) (dd : Option Addr) (sl : Array (Option Value)) (u : Tok) :
    Meets (Builtin.«tuple.__mul__» ⟨[.ref l, .int 1 u], []⟩) (fun _ R s => s.heap.get? l = some { cls := .type "tuple", dict := dd, data := .seq items n, slots := sl } ∧ R (.ok (.ret (Value.ref l))) s) :=
  .of_wp fun prog w A R s h => by
    obtain ⟨hp, g, d, tk, os⟩ := s
    obtain ⟨hl, h⟩ := h
    have f1 := AutoSeq1.idx_int
    wp_walk using wpAny_loadPart' hl
    exact ⟨_, rfl, h⟩
section
variable {X : Cx}
/-- (d,) * k, k from 1 on -/
def rRepD (K : PySem.W.Frag) : R2 := fun x y H Q => ∃ (d : PyData) (k : Nat), Dt K H x (.tuple [d]) ∧ y = .int (k : Nat) ∧ 1 ≤ k ∧ k ≤ 1000 ∧ ∀ v H', Same H H' → Dt K H' v (.tuple (List.replicate k d)) → Q v H'
theorem rep_one {v : V} : ∀ k : Nat, (List.replicate k [v]).flatten = List.replicate k v
  | 0 => rfl
  | k + 1 => by
    rw [List.replicate_succ, List.flatten_cons, rep_one k]
    rfl
theorem op_repD : OpR X (binaryOp .Mult) (rRepD X.K) := by
  intro pins s σ H x y v u Q I rx ry h
  obtain ⟨d, k, h1, rfl, k1, k2, q⟩ := h
  obtain ⟨l, xs, rfl, qa, da⟩ := h1.tup_inv
  by_cases hk : k = 1
  · subst hk
    cases rx
    obtain ⟨t, rfl⟩ := ry
    obtain ⟨its, r, ⟨⟨cls, dd, data, sl⟩, ho, hc, n, hd⟩, hs⟩ := I.tuple qa
    simp only at hc hd
    subst hc hd
    refine wpAny_binaryOp_repeat_ref (T := "tuple") (U := "int") (by decide) ⟨_, ho, rfl⟩ (fun s' => typeIs_int s' _ t) noFill_tuple_mul F.fills_int_mul F.slot_int_rmul repeat_tuple F.slot_int_index.lookup
      (call_meets F.slot_int_rmul (typeIs_int s _ t) F.entry_int_rmul (F.args_int_rmul_2 _ _) (int_rmul_tuple _ t l its.toArray n dd sl)
        ⟨ho, rfl, ⟨_, ho, rfl⟩, call_meets F.slot_tuple_mul ⟨_, ho, rfl⟩ F.entry_tuple_mul (F.args_tuple_mul_2 _ _) (tuple_mul1 l its.toArray n dd sl t) ⟨ho, ?_⟩⟩)
    exact ⟨.ref l, H, I, rfl, q _ H (Same.refl _) h1⟩
  · cases da with
    | cons a b =>
      cases b
      refine op_repT pins s σ H _ _ v u Q I rx ry ⟨l, k, _, rfl, rfl, qa, by simp, by omega, by omega, by simp, fun p hp => ?_⟩
      rw [rep_one]
      exact q _ _ (same_upd hp) (.tup (.inl (.inl upd_same)) (DtAll.rep (Dt.same (same_upd hp) _ a) k))
end
/-! ### a book's data -/
structure Bk where
  names : List Str
  gifts : List Int
  stacks : List (List (Str × Int))
  drops : List Int
def noteD (n : Str × Int) : PyData := .tuple [.str n.1, .int n.2]
def notesD (l : List (Str × Int)) : List PyData := l.map noteD
def stackD (l : List (Str × Int)) : PyData := .tuple (notesD l)
theorem tup_note (n : Str × Int) : tupD (noteD n) = true := by simp [noteD, tupD, tupDs]
theorem tup_notes (l : List (Str × Int)) : tupDs (notesD l) = true := tupDs_map tup_note l
theorem tup_stack (l : List (Str × Int)) : tupD (stackD l) = true := by
  unfold stackD
  simpa [tupD] using tup_notes l
theorem tup_stacks (l : List (List (Str × Int))) : tupD (.tuple (l.map stackD)) = true := by simpa [tupD] using tupDs_map tup_stack l
theorem tup_strs (l : List Str) : tupD (.tuple (l.map PyData.str)) = true := by simpa [tupD] using tupDs_map (f := PyData.str) (fun _ => by simp [tupD]) l
theorem tup_ints (l : List Int) : tupD (.tuple (l.map PyData.int)) = true := by simpa [tupD] using tupDs_map (f := PyData.int) (fun _ => by simp [tupD]) l
def bf (a b c d : V) : List (Str × V) := [("names", a), ("gifts", b), ("stacks", c), ("drops", d)]
theorem lk_hit {f : Str} {v : V} {r : List (Str × V)} : List.lookup f ((f, v) :: r) = some v := by simp [List.lookup]
theorem lk_miss {f g : Str} {v : V} {r : List (Str × V)} (h : (f == g) = false) : List.lookup f ((g, v) :: r) = List.lookup f r := by simp [List.lookup, h]
theorem bf_names {a b c d : V} : (bf a b c d).lookup ("names" : Str) = some a := lk_hit
theorem bf_gifts {a b c d : V} : (bf a b c d).lookup ("gifts" : Str) = some b := (lk_miss (by decide +kernel)).trans lk_hit
theorem bf_stacks {a b c d : V} : (bf a b c d).lookup ("stacks" : Str) = some c := (lk_miss (by decide +kernel)).trans ((lk_miss (by decide +kernel)).trans lk_hit)
theorem bf_drops {a b c d : V} : (bf a b c d).lookup ("drops" : Str) = some d := (lk_miss (by decide +kernel)).trans ((lk_miss (by decide +kernel)).trans ((lk_miss (by decide +kernel)).trans lk_hit))
/-- a name that is no field -/
def NoF (m : Str) : Prop := (m == "names") = false ∧ (m == "gifts") = false ∧ (m == "stacks") = false ∧ (m == "drops") = false
theorem bf_no {a b c d : V} {m : Str} (h : NoF m) : (bf a b c d).lookup m = none := (lk_miss h.1).trans ((lk_miss h.2.1).trans ((lk_miss h.2.2.1).trans ((lk_miss h.2.2.2).trans rfl)))
structure BookAt (K : PySem.W.Frag) (C : Addr) (H : Hp) (b : Addr) (M : Bk) : Prop where
  ex : ∃ dx tn on vg vs vd, H b = some (.ins C dx (bf (.ref tn) vg vs vd)) ∧ H tn = some (.frz on (.tup (M.names.map V.str))) ∧ on.dict = none ∧ Dt K H vg (.tuple (M.gifts.map .int)) ∧ Dt K H vs (.tuple (M.stacks.map stackD)) ∧ Dt K H vd (.tuple (M.drops.map .int))
theorem BookAt.keep {K : PySem.W.Frag} {C : Addr} {H H' : Hp} {b : Addr} {M : Bk} (h : BookAt K C H b M) (k : Kp H H') : BookAt K C H' b M := by
  obtain ⟨dx, tn, on, vg, vs, vd, e, h1, hn, h2, h3, h4⟩ := h.ex
  exact ⟨dx, tn, on, vg, vs, vd, k _ _ e trivial, k _ _ h1 trivial, hn, Dt.keep k _ (tup_ints _) h2, Dt.keep k _ (tup_stacks _) h3, Dt.keep k _ (tup_ints _) h4⟩
/-- a book that may be -/
structure Bk.Ok (M : Bk) : Prop where
  n0 : 1 ≤ M.names.length
  n1 : M.names.length ≤ 12
  nd : M.names.Nodup
  nm : ∀ z ∈ M.names, nameT z = true
  lg : M.gifts.length = M.names.length
  ls : M.stacks.length = M.names.length
  ld : M.drops.length = M.names.length
  many : (M.stacks.map List.length).sum ≤ 60
end Rc

namespace Rc
open PySem PySem.Spec PyProof.Rows L2
section
variable {X : Cx}
/-- tuple(l), the tuple known to the object -/
def rTupF (K : PySem.W.Frag) : List V → Hp → VK → Prop := fun vs H Q => ∃ p ys, vs = [.ref p] ∧ SqL K H p ys ∧ ∀ l o, H l = none → o.dict = none → Q (.ref l) (upd H l (.frz o (.tup ys)))
theorem call_tupF : CallR X (.type "tuple") (rTupF X.K) := by
  intro pins s σ H xs us Q I r h
  obtain ⟨p, ys, rfl, hq, q⟩ := h
  obtain ⟨u, rfl, rx⟩ := vals1 r
  cases rx
  obtain ⟨its, r', pl, hz⟩ := I.list hq
  have hlen := r'.length
  refine call_tuple_list pl.isList (fun h' kp => ?_) (by simp only [List.size_toArray] <;> omega)
  have I1 : L2.Inv X pins σ H { s with heap := h' } := I.kept (t' := s.toks) kp
  have e0 : (h'.push { cls := .type "tuple", data := .seq its.toArray }).get? h'.objs.size = some { cls := .type "tuple", data := .seq its.toArray } := Heap.get?_push_size _ rfl
  have I2 := I1.laid (a := h'.objs.size) (o := .frz { cls := .type "tuple", data := .seq its.toArray } (.tup ys)) (t' := s.toks) (h' := h'.push { cls := .type "tuple", data := .seq its.toArray })
    (fun b o e => Heap.get?_push_of_some _ e) (Nat.le_refl _) ⟨e0, hz, its, r', IsTup.new _ _⟩
  exact ⟨.ref h'.objs.size, _, I2, rfl, q _ _ (I1.hok.fresh (Nat.le_refl _)) rfl⟩
/-- t.m(e), t such a tuple -/
def tBMF (r : V → List V → Hp → VK → Prop) (to : TE) (t : TA) : TE := fun σ H Q => to σ H fun x H1 => ∃ p o xs, x = .ref p ∧ H1 p = some (.frz o (.tup xs)) ∧ o.dict = none ∧ t σ H1 fun vs H2 => r x vs H2 Q
theorem pe_bmF {o e : Expr} {es : List Expr} {to : TE} {t : TA} {name : Str} {apos cpos : Pos} {id : String} {r : V → List V → Hp → VK → Prop} (slot : Slot "tuple" name id) (hty : typeOf (.builtin id) = pure (.type "method_descriptor")) (hm : MtR X id r)
    (ho : PE X o to) (ha : PA X (e :: es) t) (hbase : attributeBase o name X.env (eval o X.env) = eval o X.env := by rfl)
    (hfew : ((backTo cpos (starEach (e :: es) X.env)).all (fun x => !x.1) && (backToKw cpos (keywordEach [] X.env)).all (fun x => x.1.isSome) &&
      decide ((e :: es).length + ([] : List Keyword).length + (if ([] : List Keyword).isEmpty then 0 else 1) < 30)) = true := by rfl)
    (hline : (apos.endLine == cpos.line) = true := by rfl) (hs : starEach (e :: es) X.env = (false, eval e X.env) :: starEach es X.env := by rfl)
    (hplain : (backTo cpos (starEach es X.env)).any (·.1) = false := by rfl) : PE X (.Call (.Attribute o name apos) (e :: es) [] cpos) (tBMF r to t) := by
  refine ⟨fun pins s σ H Q I h => wpAny_Call_method_late hbase hfew hline rfl (thn (ho.run pins s σ H _ I h) fun v s1 z => ?_)⟩
  obtain ⟨x, H1, I1, r1, p, ob, xs, rfl, hp, hd, q1⟩ := z
  cases r1
  obtain ⟨g1, _, its, rv, hT⟩ := I1.hok p _ hp
  obtain ⟨o2, g2, c2, _⟩ := hT
  rw [g1] at g2
  cases g2
  refine ⟨"tuple", id, PySem.F.plainAttrs_tuple, slot, hty, ⟨ob, g1, c2⟩, fun a e => ?_, ?_⟩
  · cases e
    exact ⟨ob, g1, hd⟩
  have hA := ha.run cpos pins s1 σ H1 _ I1 q1
  rw [hs] at hA ⊢
  refine Calls.callWith_builtin (by show (false || (backTo cpos (starEach es X.env)).any (·.1)) = false; rw [hplain] <;> rfl) (Calls.evalArgs_plain (thn hA fun us s2 z => ?_))
  obtain ⟨vs, H2, I2, r2, q2⟩ := z
  exact hm pins s2 σ H2 (.ref p) vs _ us Q I2 rfl r2 q2
/-- one of two readings of what is walked -/
theorem PI.or {tg e : Expr} {t1 t2 : TI} (h1 : PI X tg e t1) (h2 : PI X tg e t2) : PI X tg e (fun σ H R => t1 σ H R ∨ t2 σ H R) :=
  ⟨fun pins s σ H R I q => q.elim (h1.run pins s σ H R I) (h2.run pins s σ H R I)⟩
end
theorem inV_strs (z : Str) (zs : List Str) : inV (.str z) (zs.map V.str) = decide (z ∈ zs) := by
  unfold inV
  rw [List.any_map]
  induction zs with
  | nil => rfl
  | cons y r ih =>
    rw [List.any_cons, ih]
    show ((y == z) || decide (z ∈ r)) = decide (z ∈ y :: r)
    by_cases h : y = z
    · subst h
      simp
    · have h' : ¬ z = y := fun e => h e.symm
      rw [beq_eq_false_iff_ne.mpr h]
      simp [h']
end Rc

namespace Rc
open PySem PySem.Spec PyProof.Rows L2
/-- a def that is called -/
structure Has (P : Program) (w : World) (K : PySem.W.Frag) (mg : Str → Option Value) (base : Heap) (k : Nat) (nm : Str) (ps : List Str) (sp : Sp) (f : Addr) (fd : FuncData) : Prop where
  ok : FnOk P w K mg base CX0 k f fd ps sp
  g : mg nm = some (.ref f)
  kp : PySem.W.keepIn K (.ref f) = true
  b : Binds K fd ps []
/-- a method that is called -/
structure HasM (P : Program) (w : World) (K : PySem.W.Frag) (mg : Str → Option Value) (base : Heap) (C : Addr) (k : Nat) (nm : Str) (ps : List Str) (sp : Sp) (f : Addr) (fd : FuncData) : Prop where
  ok : FnOk P w K mg base CX0 k f fd ps sp
  m : Meth K C nm f
  b : Binds K fd ps []
structure Blt3 (mg : Str → Option Value) : Prop where
  list : mg "list" = none
  tuple : mg "tuple" = none
  enumerate : mg "enumerate" = none
  zip : mg "zip" = none
  sum : mg "sum" = none
  dict : mg "dict" = none
structure ClsF (K : PySem.W.Frag) (C : Addr) : Prop where
  cl : Cls K C
  n1 : NoAttr K C "names"
  n2 : NoAttr K C "gifts"
  n3 : NoAttr K C "stacks"
  n4 : NoAttr K C "drops"
section
variable {P : Program} {w : World} {K : PySem.W.Frag} {mg : Str → Option Value} {base : Heap}
/-! ### check_persons -/
abbrev sCheckP : Stmt := topS 20
theorem scCheckP : FnScope ["persons", "place", "name"] ["persons"] (defScope sCheckP) := ⟨rfl, rfl, rfl, by decide +kernel, rfl, by decide +kernel, by decide +kernel⟩
/-- names of which a book may be made -/
structure NamesOk (zs : List Str) : Prop where
  n0 : 1 ≤ zs.length
  n1 : zs.length ≤ 12
  nd : zs.Nodup
  nm : ∀ z ∈ zs, nameT z = true
theorem nameT_len {z : Str} (h : nameT z = true) : 1 ≤ z.length ∧ z.length ≤ 8 := by
  unfold nameT at h
  simp only [Bool.and_eq_true, decide_eq_true_eq] at h
  exact h.1
def spCheckP (K : PySem.W.Frag) : Sp := fun vs H Q _ => ∃ a zs, vs = [.ref a] ∧ H a = some (.lst (zs.map V.str)) ∧ NamesOk zs ∧ ∀ H', Same H H' → Q .non H'
theorem ok_checkP {f fN : Addr} {fd fdN : FuncData} (F : Fun K "check_persons" "check_persons" sCheckP f fd) (B : Blt mg) (B3 : Blt3 mg) (gM : ∃ t, mg "MOST_PERSONS" = some (.int 12 t))
    (N : Has P w K mg base 1 "is_name" ["thing"] (spBool K nameD) fN fdN) : FnOk P w K mg base CX0 2 f fd ["persons"] (spCheckP K) := by
  obtain ⟨tM, gM⟩ := gM
  refine F.ok scCheckP (fun vs H Q E h => ?_) (fun cdv A outer s H vs Q E hr h => ?_)
  · obtain ⟨a, zs, rfl, _⟩ := h
    rfl
  · obtain ⟨a, zs, rfl, ha, ok, q⟩ := h
    refine ⟨_, pss_cons (ps_if (PW.pt (pw_or (pt_not (pt_val (pe_callB call_isi (by rfl) B.isi (by decide +kernel) (pa_cons (pv 0) (pa_cons (pe_bltn (v := .ty "list") (by rfl) B3.list (by decide +kernel) rfl) pa_nil)))))
        (pw_or (pt_cmpR op_lt (pe_callB call_len_seq (by rfl) B.len PySem.boot_len (pa_cons (pv 0) pa_nil)) pe_int (nomark _))
        (pw_or1 (pt_cmpR op_gt (pe_callB call_len_seq (by rfl) B.len PySem.boot_len (pa_cons (pv 0) pa_nil)) (pe_glob (v := .int 12) (by rfl) gM ⟨_, rfl⟩) (nomark _)))))) pss_never pss_nil)
      (pss_one (ps_for PassesOwn.never rfl (pi_enum (by rfl) B3.enumerate (pa_cons (pv 0) pa_nil)) (pg_tup rfl (pgs_cons (pg_name (i := 1) scCheckP.nd rfl (.inl rfl)) (pgs_cons (pg_name (i := 2) scCheckP.nd rfl (.inl rfl)) pgs_nil)))
        (pss_cons (ps_if (pt_not (pt_val (pe_call N.ok hr (by rfl) N.g N.kp N.b .nil pass0 (pa_cons (pv 2) pa_nil)))) pss_never pss_nil)
        (pss_one (ps_if (pt_cmpR op_in_seq (pv 2) (pe_slice sl_list (pv 0) po_none (po_some (pv 1))) (by rfl)) pss_never pss_nil))))), ?_⟩
    have sq : SqL K H a (zs.map V.str) := .inl (.inl ha)
    refine ⟨.ref a, rfl, _, .ty "list", _, _, true, rfl, .ty "list", .base (.lst ha), kit_ty (by decide +kernel), _, rfl, iteF ?_⟩
    refine ⟨.ref a, rfl, a, _, rfl, .inl sq, _, _, rfl, rfl, _, rfl, ?_⟩
    have l0 := ok.n0
    have l1 := ok.n1
    rw [show decide (((zs.map V.str).length : Int) < 1) = false from decide_eq_false (by rw [List.length_map]; omega)]
    refine iteF ⟨.ref a, rfl, a, _, rfl, .inl sq, _, _, rfl, rfl, _, rfl, ?_⟩
    rw [show decide ((12 : Int) < ((zs.map V.str).length : Int)) = false from decide_eq_false (by rw [List.length_map]; omega)]
    refine iteF ⟨.ref a, rfl, a, _, rfl, sq, ?_⟩
    refine for_it (walk_enum (xs := zs.map V.str)) (fun i σ H' => ∃ y1 y2, σ = [some (.ref a), y1, y2] ∧ Same H H') ⟨_, _, rfl, Same.refl _⟩ (fun i σ H' _ hP => ?_) (fun i x σ H1' H1 hi hP hY => ?_) (fun σ H' hP => ?_)
    · obtain ⟨_, _, _, s⟩ := hP
      exact s.seq sq
    · obtain ⟨T, x1, x2, rfl, nT, rfl, e1, e2⟩ := hY
      obtain ⟨y1, y2, rfl, s1⟩ := hP
      cases e1
      have s2 := s1.trans (same_upd (o := .tup [V.int (i : Nat), x2]) nT)
      rw [List.length_map] at hi
      have ex : x2 = .str zs[i] := by
        have e2' : (zs.map V.str)[i]? = some x2 := e2
        rw [List.getElem?_map, List.getElem?_eq_getElem hi] at e2'
        exact (Option.some.inj e2').symm
      subst ex
      have hm : zs[i] ∈ zs := List.getElem_mem hi
      have nm := ok.nm _ hm
      refine ⟨T, _, rfl, .inl (.inl upd_same), rfl, _, _, rfl, _, _, rfl, rfl, ?_⟩
      refine ⟨.str zs[i], rfl, .str zs[i], .str zs[i], rfl, .str _, fun z e => by cases e; have := (nameT_len nm).2; omega, fun H2 sm => ⟨_, rfl, ?_⟩⟩
      have e3 : nameD (.str zs[i]) = true := nm
      rw [e3]
      refine iteF ⟨.str zs[i], rfl, .ref a, rfl, .int (i : Nat), rfl, _, rfl, a, _, rfl, sm.seq (s2.seq sq), fun p np => ?_⟩
      rw [cut_take, ← List.map_take]
      refine ⟨p, _, rfl, .inl (.inl (.inl upd_same)), rfl, flat_strs _, _, rfl, ?_⟩
      have no : ¬ zs[i] ∈ zs.take i := fun z => by
        obtain ⟨j, hj, e⟩ := List.getElem_of_mem z
        rw [List.length_take] at hj
        rw [List.getElem_take] at e
        have := (List.getElem_inj ok.nd).mp e
        omega
      show if inV (.str zs[i]) ((zs.take i).map V.str) = true then _ else _
      rw [inV_strs, decide_eq_false no]
      exact iteF ⟨_, _, rfl, s2.trans (sm.trans (same_upd np))⟩
    · obtain ⟨_, _, rfl, s⟩ := hP
      exact q _ s
/-! ### check_amount -/
abbrev sCheckA : Stmt := topS 21
theorem scCheckA : FnScope ["amount"] ["amount"] (defScope sCheckA) := ⟨rfl, rfl, rfl, by decide +kernel, rfl, by decide +kernel, by decide +kernel⟩
def spCheckA (K : PySem.W.Frag) : Sp := fun vs H Q _ => ∃ n : Int, vs = [.int n] ∧ 1 ≤ n ∧ ∀ H', Same H H' → Q .non H'
theorem ok_checkA {f fN : Addr} {fd fdN : FuncData} (F : Fun K "check_amount" "check_amount" sCheckA f fd)
    (N : Has P w K mg base 2 "is_amount" ["thing"] (spBool K amountD) fN fdN) : FnOk P w K mg base CX0 3 f fd ["amount"] (spCheckA K) := by
  refine F.ok scCheckA (fun vs H Q E h => ?_) (fun cdv A outer s H vs Q E hr h => ?_)
  · obtain ⟨a, rfl, _⟩ := h
    rfl
  · obtain ⟨n, rfl, n1, q⟩ := h
    refine ⟨_, pss_one (ps_if (pt_not (pt_val (pe_call N.ok hr (by rfl) N.g N.kp N.b .nil pass0 (pa_cons (pv 0) pa_nil)))) pss_never pss_nil), ?_⟩
    refine ⟨_, rfl, _, .int n, rfl, .int n, (fun z e => by cases e), fun H' sm => ⟨_, rfl, ?_⟩⟩
    have e : amountD (.int n) = true := decide_eq_true n1
    rw [e]
    exact iteF (q _ sm)
/-! ### with_changed -/
abbrev sChg : Stmt := topS 23
theorem scChg : FnScope ["row", "place", "thing"] ["row", "place", "thing"] (defScope sChg) := ⟨rfl, rfl, rfl, by decide +kernel, rfl, by decide +kernel, by decide +kernel⟩
def spChg (K : PySem.W.Frag) : Sp := fun vs H Q _ => ∃ v ds n t d, vs = [v, .int (n : Nat), t] ∧ Dt K H v (.tuple ds) ∧ Dt K H t d ∧ n < ds.length ∧ ds.length ≤ 100 ∧ ∀ v' H', Same H H' → Dt K H' v' (.tuple (ds.set n d)) → Q v' H'
theorem set_parts {α : Type} (ds : List α) (n : Nat) (d : α) (h : n < ds.length) : ds.take n ++ [d] ++ ds.drop (n + 1) = ds.set n d := by
  rw [List.set_eq_take_append_cons_drop, if_pos h, List.append_assoc]
  rfl
theorem ok_chg {f : Addr} {fd : FuncData} (F : Fun K "with_changed" "with_changed" sChg f fd) : FnOk P w K mg base CX0 1 f fd ["row", "place", "thing"] (spChg K) := by
  refine F.ok scChg (fun vs H Q E h => ?_) (fun cdv A outer s H vs Q E hr h => ?_)
  · obtain ⟨_, _, _, _, _, rfl, _⟩ := h
    rfl
  · obtain ⟨v, ds, n, t, d, rfl, hv, ht, hn, hz, q⟩ := h
    refine ⟨_, pss_one (ps_ret (pe_op op_catD (pe_op op_catD (pe_slice sl_tupD (pv 0) po_none (po_some (pv 1))) (pe_tup (pa_cons (pv 2) pa_nil))) (pe_slice sl_tupD (pv 0) (po_some (pe_op op_add (pv 1) pe_int)) po_none))), ?_⟩
    refine ⟨v, rfl, .int (n : Nat), rfl, (n : Nat), rfl, ds, hv, .inl ⟨n, rfl, rfl, fun v1 H1 s1 d1 => ?_⟩⟩
    refine ⟨t, rfl, by show 1 ≤ sizeLine; decide, fun p np => ⟨ds.take n, [d], Dt.same (same_upd np) _ d1, .tup (.inl (.inl upd_same)) (.cons (Dt.same (s1.trans (same_upd np)) _ ht) .nil), ?_, fun v2 H2 s2 d2 => ?_⟩⟩
    · rw [List.length_take, List.length_singleton]
      omega
    have s02 := s1.trans ((same_upd np).trans s2)
    refine ⟨v, rfl, .int (n : Nat), rfl, _, _, rfl, rfl, _, rfl, ds, Dt.same s02 _ hv, .inr ⟨n + 1, rfl, rfl, fun v3 H3 s3 d3 => ⟨_, _, Dt.same s3 _ d2, d3, ?_, fun v4 H4 s4 d4 => ?_⟩⟩⟩
    · rw [List.length_append, List.length_take, List.length_drop, List.length_singleton]
      omega
    · rw [set_parts ds n d hn] at d4
      exact q _ _ (s02.trans (s3.trans s4)) d4
end
end Rc

namespace Rc
open PySem PySem.Spec PyProof.Rows L2
/-- a list (k) or a tuple -/
def Sq (K : PySem.W.Frag) (k : Bool) (H : Hp) (a : Addr) (xs : List V) : Prop := if k = true then SqL K H a xs else SqT K H a xs
theorem same_seqT {K : PySem.W.Frag} {H H' : Hp} {a : Addr} {xs : List V} (e : Same H H') (h : SqT K H a xs) : SqT K H' a xs := by
  rcases h with (h | ⟨o, h⟩) | h
  · exact .inl (.inl (e _ _ h))
  · exact .inl (.inr ⟨o, e _ _ h⟩)
  · exact .inr h
theorem Sq.same {K : PySem.W.Frag} {k : Bool} {H H' : Hp} {a : Addr} {xs : List V} (h : Sq K k H a xs) (e : Same H H') : Sq K k H' a xs := by
  cases k with
  | true => exact e.seq h
  | false => exact same_seqT e h
/-- a list or a tuple that stands in slot i -/
def iSeqV (K : PySem.W.Frag) (i : Nat) : TI := fun σ H R => ∃ a xs k, σ[i]? = some (some (.ref a)) ∧ Sq K k H a xs ∧ ∀ J G, Walk J xs.length G (YAt xs) → (∀ H', Sq K k H' a xs → G H') → R J H
theorem pi_seqV {X : Cx} {tg : Expr} (i : Nat) {x : Str} {pos : Pos} (h : PE X (.Name x pos) (tVar i)) : PI X tg (.Name x pos) (iSeqV X.K i) := by
  refine ⟨fun pins s σ H R I q => ?_⟩
  obtain ⟨a, xs, k, e, hq, q⟩ := q
  cases k with
  | true => exact (pi_list h).run pins s σ H R I ⟨_, e, a, rfl, ⟨xs, hq⟩, q _ _ walk_list fun H' z => z⟩
  | false => exact (pi_tup h).run pins s σ H R I ⟨_, e, a, rfl, ⟨xs, hq⟩, q _ _ walk_tup fun H' z => z⟩
/-! ### notes that fall from above -/
def partOf (a f : Int) : Int := if f < a then f else a
def goneN : List (Str × Int) → Int → List (Str × Int)
  | [], _ => []
  | (t, a) :: r, f => (if 0 < partOf a f then [(t, partOf a f)] else []) ++ goneN r (f - partOf a f)
def leftN : List (Str × Int) → Int → List (Str × Int)
  | [], _ => []
  | (t, a) :: r, f => (if partOf a f < a then [(t, a - partOf a f)] else []) ++ leftN r (f - partOf a f)
theorem goneN_nil (f : Int) : goneN [] f = [] := rfl
theorem leftN_nil (f : Int) : leftN [] f = [] := rfl
theorem goneN_cons (t : Str) (a f : Int) (r : List (Str × Int)) : goneN ((t, a) :: r) f = (if 0 < partOf a f then [(t, partOf a f)] else []) ++ goneN r (f - partOf a f) := rfl
theorem leftN_cons (t : Str) (a f : Int) (r : List (Str × Int)) : leftN ((t, a) :: r) f = (if partOf a f < a then [(t, a - partOf a f)] else []) ++ leftN r (f - partOf a f) := rfl
theorem goneN_len : ∀ (l : List (Str × Int)) (f : Int), (goneN l f).length ≤ l.length
  | [], _ => Nat.le_refl _
  | (t, a) :: r, f => by
    have := goneN_len r (f - partOf a f)
    unfold goneN
    rw [List.length_append, List.length_cons]
    split <;> simp <;> omega
theorem leftN_len : ∀ (l : List (Str × Int)) (f : Int), (leftN l f).length ≤ l.length
  | [], _ => Nat.le_refl _
  | (t, a) :: r, f => by
    have := leftN_len r (f - partOf a f)
    unfold leftN
    rw [List.length_append, List.length_cons]
    split <;> simp <;> omega
theorem DtAll.notes_get {K : PySem.W.Frag} {H : Hp} {xs : List V} {l : List (Str × Int)} {i : Nat} {x : V} (h : DtAll K H xs (notesD l)) (e : xs[i]? = some x) : ∃ (hi : i < l.length), Dt K H x (noteD l[i]) := by
  have hl := h.len
  have hi : i < xs.length := (List.getElem?_eq_some_iff.mp e).1
  have hi' : i < l.length := by
    unfold notesD at hl
    rw [List.length_map] at hl
    omega
  refine ⟨hi', ?_⟩
  have g : (notesD l)[i]? = some (noteD l[i]) := by
    unfold notesD
    rw [List.getElem?_map, List.getElem?_eq_getElem hi']
    rfl
  obtain ⟨v, e1, e2⟩ := h.get g
  rw [e] at e1
  cases e1
  exact e2
theorem note_inv {K : PySem.W.Frag} {H : Hp} {v : V} {n : Str × Int} (h : Dt K H v (noteD n)) : ∃ a, v = .ref a ∧ SqT K H a [.str n.1, .int n.2] := by
  obtain ⟨a, xs, rfl, q, d⟩ := h.tup_inv
  cases d with
  | cons d1 d2 =>
    cases d1
    cases d2 with
    | cons d3 d4 =>
      cases d3
      cases d4
      exact ⟨a, rfl, q⟩
section
variable {P : Program} {w : World} {K : PySem.W.Frag} {mg : Str → Option Value} {base : Heap}
abbrev sSplit : Stmt := topS 22
abbrev nSplit : List Str := ["notes", "fallen", "gone", "left", "to", "amount", "part"]
theorem scSplit : FnScope nSplit ["notes", "fallen"] (defScope sSplit) := ⟨rfl, rfl, rfl, by decide +kernel, rfl, by decide +kernel, by decide +kernel⟩
def spSplit (K : PySem.W.Frag) : Sp := fun vs H Q _ => ∃ a xs kd l f, vs = [.ref a, .int f] ∧ Sq K kd H a xs ∧ DtAll K H xs (notesD l) ∧ l.length ≤ 100 ∧
  ∀ t g m gx mx H', Same H H' → H' t = some (.tup [.ref g, .ref m]) → H g = none → H m = none → g ≠ m → H' g = some (.lst gx) → H' m = some (.lst mx) → DtAll K H' gx (notesD (goneN l f)) → DtAll K H' mx (notesD (leftN l f)) → Q (.ref t) H'
theorem ok_split {f : Addr} {fd : FuncData} (F : Fun K "split_notes" "split_notes" sSplit f fd) (B2 : Blt2 mg) : FnOk P w K mg base CX0 1 f fd ["notes", "fallen"] (spSplit K) := by
  refine F.ok scSplit (fun vs H Q E h => ?_) (fun cdv A outer s H vs Q E hr h => ?_)
  · obtain ⟨_, _, _, _, _, rfl, _⟩ := h
    rfl
  · obtain ⟨a, xs, kd, l, f, rfl, hq, hd, hz, q⟩ := h
    refine ⟨_, pss_cons (ps_set (i := 2) scSplit.nd rfl (.inl rfl) (pe_lst pa_nil)) (pss_cons (ps_set (i := 3) scSplit.nd rfl (.inl rfl) (pe_lst pa_nil))
      (pss_cons (ps_for PassesOwn.never rfl (pi_seqV 0 (pv 0)) (pg_tup rfl (pgs_cons (pg_name (i := 4) scSplit.nd rfl (.inl rfl)) (pgs_cons (pg_name (i := 5) scSplit.nd rfl (.inl rfl)) pgs_nil)))
        (pss_cons (ps_set (i := 6) scSplit.nd rfl (.inl rfl) (pe_callB (call_min2 rfl) (by rfl) B2.min (by decide +kernel) (pa_cons (pv 5) (pa_cons (pv 1) pa_nil))))
        (pss_cons (ps_aug (i := 1) scSplit.nd rfl (.inl rfl) (pv 6) ip_sub)
        (C8.pss_cut (ps_if (pt_cmpR op_gt (pv 6) pe_int (nomark _)) (pss_one (ps_expr (pe_bm PySem.F.plainAttrs_list PySem.F.slot_list_append PySem.F.type_list_append mt_append (pv 2) (pa_cons (pe_tup (pa_cons (pv 4) (pa_cons (pv 6) pa_nil))) pa_nil)))) pss_nil)
        (pss_one (ps_if (pt_cmpR op_lt (pv 6) (pv 5) (nomark _)) (pss_one (ps_expr (pe_bm PySem.F.plainAttrs_list PySem.F.slot_list_append PySem.F.type_list_append mt_append (pv 3) (pa_cons (pe_tup (pa_cons (pv 4) (pa_cons (pe_op op_sub (pv 5) (pv 6)) pa_nil))) pa_nil)))) pss_nil))))))
      (pss_one (ps_ret (pe_tup (pa_cons (pv 2) (pa_cons (pv 3) pa_nil))))))), ?_⟩
    refine ⟨Nat.zero_le _, fun g ng => ⟨Nat.zero_le _, fun m nm => ?_⟩⟩
    have gm : g ≠ m := fun z => by
      rw [← z, upd_same] at nm
      cases nm
    have nmH : H m = none := by
      rw [upd_ne gm.symm] at nm
      exact nm
    have s0 : Same H (upd (upd H g (.lst [])) m (.lst [])) := (same_upd ng).trans (same_upd nm)
    refine ⟨a, xs, kd, rfl, hq.same s0, fun J G wk hG => ?_⟩
    have fresh : ∀ b o, H b = some o → b ≠ g ∧ b ≠ m := fun b o e => ⟨ne_of_none e ng, ne_of_none e nmH⟩
    refine for_it wk (fun i σ H' => ∃ y4 y5 y6 fi gx mx Gs Ms, σ = [some (.ref a), some (.int fi), some (.ref g), some (.ref m), y4, y5, y6] ∧ Same H H' ∧ H' g = some (.lst gx) ∧ H' m = some (.lst mx) ∧
        DtAll K H' gx (notesD Gs) ∧ DtAll K H' mx (notesD Ms) ∧ Gs.length ≤ i ∧ Ms.length ≤ i ∧ Gs ++ goneN (l.drop i) fi = goneN l f ∧ Ms ++ leftN (l.drop i) fi = leftN l f)
      ⟨_, _, _, f, [], [], [], [], rfl, s0, by rw [upd_ne gm, upd_same], upd_same, .nil, .nil, Nat.le_refl _, Nat.le_refl _, rfl, rfl⟩ (fun i σ H' _ hP => ?_) (fun i x σ H1' H1 hi hP hY => ?_) (fun σ H' hP => ?_)
    · obtain ⟨_, _, _, _, _, _, _, _, _, s1, _⟩ := hP
      exact hG _ (hq.same s1)
    · obtain ⟨rfl, ex⟩ := hY
      obtain ⟨y4, y5, y6, fi, gx, mx, Gs, Ms, rfl, s1, hg, hm, dg, dm, lg, lm, eg, em⟩ := hP
      obtain ⟨hil, dn⟩ := (DtAll.same s1 _ hd).notes_get ex
      obtain ⟨ta, rfl, qt⟩ := note_inv dn
      have ed : l.drop i = l[i] :: l.drop (i + 1) := List.drop_eq_getElem_cons hil
      rw [ed] at eg em
      obtain ⟨t, am, el⟩ : ∃ t am, l[i] = (t, am) := ⟨_, _, rfl⟩
      rw [el] at eg em qt
      rw [goneN_cons] at eg
      rw [leftN_cons] at em
      have dgl := dg.len
      have dml := dm.len
      unfold notesD at dgl dml
      rw [List.length_map] at dgl dml
      refine ⟨ta, _, rfl, qt, rfl, _, _, rfl, _, _, rfl, rfl, ?_⟩
      refine ⟨.int am, rfl, .int fi, rfl, _, _, rfl, ?_⟩
      have ep : (if fi < am then fi else am) = partOf am fi := rfl
      rw [ep]
      generalize partOf am fi = pt at eg em
      refine ⟨_, rfl, _, rfl, _, _, rfl, rfl, ?_⟩
      refine ⟨fun σ2 H2 => ∃ gx2 Gs2, σ2 = [some (V.ref a), some (V.int (fi - pt)), some (V.ref g), some (V.ref m), some (V.str t), some (V.int am), some (V.int pt)] ∧ Same H H2 ∧ H2 g = some (.lst gx2) ∧ H2 m = some (.lst mx) ∧ DtAll K H2 gx2 (notesD Gs2) ∧ DtAll K H2 mx (notesD Ms) ∧
        Gs2.length ≤ i + 1 ∧ Gs2 ++ goneN (l.drop (i + 1)) (fi - pt) = goneN l f, ?_, ?_⟩
      · refine ⟨.int pt, rfl, _, _, rfl, rfl, _, rfl, ite2 (fun e => ?_) (fun e => ?_)⟩
        · have e' := of_decide_eq_true e
          rw [if_pos e'] at eg
          refine ⟨.ref g, rfl, .inl ⟨rfl, _, .inl (.inl hg)⟩, .str t, rfl, .int pt, rfl, by show 2 ≤ sizeLine; decide, fun p np => ⟨g, gx, _, rfl, rfl, ?_, small1000 (by omega), ?_⟩⟩
          · rw [upd_ne (ne_of_none hg np)]
            exact hg
          have pm : p ≠ m := (ne_of_none hm np).symm
          have pg : p ≠ g := (ne_of_none hg np).symm
          have kp : Kp H1 (upd (upd H1 p (.tup [.str t, .int pt])) g (.lst (gx ++ [.ref p]))) := fun b o e fx => by
            have nb : b ≠ g := fun z => by
              rw [z, hg] at e
              cases e
              exact fx
            rw [upd_ne nb, upd_ne (ne_of_none e np)]
            exact e
          refine ⟨gx ++ [.ref p], Gs ++ [(t, pt)], rfl, fun b o e => ?_, upd_same, ?_, ?_, DtAll.keep kp _ (tup_notes _) dm, ?_, ?_⟩
          · rw [upd_ne (fresh b o e).1, upd_ne (ne_of_none (s1 b o e) np)]
            exact s1 b o e
          · rw [upd_ne gm.symm, upd_ne pm.symm]
            exact hm
          · unfold notesD
            rw [List.map_append]
            refine (DtAll.keep kp _ (tup_notes _) dg).append (.cons (.tup (.inl (.inl ?_)) (.cons (.str _) (.cons (.int _) .nil))) .nil)
            rw [upd_ne pg, upd_same]
          · rw [List.length_append]
            exact Nat.add_le_add_right lg 1
          · rw [List.append_assoc]
            exact eg
        · have e' : ¬ 0 < pt := fun c => e (decide_eq_true c)
          rw [if_neg e'] at eg
          exact ⟨gx, Gs, rfl, s1, hg, hm, dg, dm, Nat.le_succ_of_le lg, eg⟩
      · rintro σ2 H2 ⟨gx2, Gs2, rfl, s2, hg2, hm2, dg2, dm2, lg2, eg2⟩
        refine ⟨.int pt, rfl, .int am, rfl, _, _, rfl, rfl, _, rfl, ite2 (fun e => ?_) (fun e => ?_)⟩
        · have e' := of_decide_eq_true e
          rw [if_pos e'] at em
          refine ⟨.ref m, rfl, .inl ⟨rfl, _, .inl (.inl hm2)⟩, .str t, rfl, .int am, rfl, .int pt, rfl, _, _, rfl, rfl, by show 2 ≤ sizeLine; decide, fun p np => ⟨m, mx, _, rfl, rfl, ?_, small1000 (by omega), ?_⟩⟩
          · rw [upd_ne (ne_of_none hm2 np)]
            exact hm2
          have pm : p ≠ m := (ne_of_none hm2 np).symm
          have pg : p ≠ g := (ne_of_none hg2 np).symm
          have kp : Kp H2 (upd (upd H2 p (.tup [.str t, .int (am - pt)])) m (.lst (mx ++ [.ref p]))) := fun b o e fx => by
            have nb : b ≠ m := fun z => by
              rw [z, hm2] at e
              cases e
              exact fx
            rw [upd_ne nb, upd_ne (ne_of_none e np)]
            exact e
          refine ⟨_, _, _, fi - pt, gx2, mx ++ [.ref p], Gs2, Ms ++ [(t, am - pt)], rfl, fun b o e => ?_, ?_, upd_same, DtAll.keep kp _ (tup_notes _) dg2, ?_, lg2, ?_, eg2, ?_⟩
          · rw [upd_ne (fresh b o e).2, upd_ne (ne_of_none (s2 b o e) np)]
            exact s2 b o e
          · rw [upd_ne gm, upd_ne pg.symm]
            exact hg2
          · unfold notesD
            rw [List.map_append]
            refine (DtAll.keep kp _ (tup_notes _) dm2).append (.cons (.tup (.inl (.inl ?_)) (.cons (.str _) (.cons (.int _) .nil))) .nil)
            rw [upd_ne pm, upd_same]
          · rw [List.length_append]
            exact Nat.add_le_add_right lm 1
          · rw [List.append_assoc]
            exact em
        · have e' : ¬ pt < am := fun c => e (decide_eq_true c)
          rw [if_neg e'] at em
          exact ⟨_, _, _, fi - pt, gx2, mx, Gs2, Ms, rfl, s2, hg2, hm2, dg2, dm2, lg2, Nat.le_succ_of_le lm, eg2, em⟩
    · obtain ⟨y4, y5, y6, fi, gx, mx, Gs, Ms, rfl, s1, hg, hm, dg, dm, lg, lm, eg, em⟩ := hP
      have hx : l.drop xs.length = [] := List.drop_of_length_le (by
        have := hd.len
        unfold notesD at this
        rw [List.length_map] at this
        omega)
      rw [hx] at eg em
      rw [goneN_nil, List.append_nil] at eg
      rw [leftN_nil, List.append_nil] at em
      subst eg em
      refine ⟨.ref g, rfl, .ref m, rfl, by show 2 ≤ sizeLine; decide, fun t nt => ?_⟩
      have st := same_upd (o := .tup [.ref g, .ref m]) nt
      exact q t g m gx mx _ (s1.trans st) upd_same ng nmH gm (st _ _ hg) (st _ _ hm) (DtAll.same st _ dg) (DtAll.same st _ dm)
end
end Rc

namespace Rc
open PySem PySem.Spec PyProof.Rows L2
abbrev inBook (i : Nat) : Stmt := inClass (topS 24) i
theorem Bk.Ok.names {M : Bk} (h : M.Ok) : NamesOk M.names := ⟨h.n0, h.n1, h.nd, h.nm⟩
def newBk (zs : List Str) : Bk := ⟨zs, List.replicate zs.length 0, List.replicate zs.length [], List.replicate zs.length 0⟩
theorem putF_miss {f g : Str} {v x : V} {r : List (Str × V)} (h : ¬ g = f) : putF f v ((g, x) :: r) = (g, x) :: putF f v r := by
  show (if g = f then (g, v) :: r else (g, x) :: putF f v r) = _
  rw [if_neg h]
theorem putF_hit {f : Str} {v x : V} {r : List (Str × V)} : putF f v ((f, x) :: r) = (f, v) :: r := by
  show (if f = f then (f, v) :: r else (f, x) :: putF f v r) = _
  rw [if_pos rfl]
theorem put1 (a : V) : putF "names" a [] = ([("names", a)] : List (Str × V)) := rfl
theorem put2 (a b : V) : putF "gifts" b [("names", a)] = ([("names", a), ("gifts", b)] : List (Str × V)) := by
  rw [putF_miss (by decide +kernel)]
  rfl
theorem put3 (a b c : V) : putF "stacks" c [("names", a), ("gifts", b)] = ([("names", a), ("gifts", b), ("stacks", c)] : List (Str × V)) := by
  rw [putF_miss (by decide +kernel), putF_miss (by decide +kernel)]
  rfl
theorem put4 (a b c d : V) : putF "drops" d [("names", a), ("gifts", b), ("stacks", c)] = bf a b c d := by
  rw [putF_miss (by decide +kernel), putF_miss (by decide +kernel), putF_miss (by decide +kernel)]
  rfl
theorem putG (a b c d e : V) : putF "gifts" e (bf a b c d) = bf a e c d := by
  unfold bf
  rw [putF_miss (by decide +kernel), putF_hit]
theorem putS (a b c d e : V) : putF "stacks" e (bf a b c d) = bf a b e d := by
  unfold bf
  rw [putF_miss (by decide +kernel), putF_miss (by decide +kernel), putF_hit]
theorem putD (a b c d e : V) : putF "drops" e (bf a b c d) = bf a b c e := by
  unfold bf
  rw [putF_miss (by decide +kernel), putF_miss (by decide +kernel), putF_miss (by decide +kernel), putF_hit]
theorem bf_len (a b c d : V) : (bf a b c d).length < 1000 := by
  show 4 < 1000
  decide
section
variable {P : Program} {w : World} {K : PySem.W.Frag} {mg : Str → Option Value} {base : Heap}
/-! ### __init__ -/
abbrev sInit : Stmt := inBook 0
theorem scInit : FnScope ["self", "persons"] ["self", "persons"] (defScope sInit) := ⟨rfl, rfl, rfl, by decide +kernel, rfl, by decide +kernel, by decide +kernel⟩
def spInit (K : PySem.W.Frag) (C : Addr) : Sp := fun vs H Q _ => ∃ x dx a zs, vs = [.ref x, .ref a] ∧ H x = some (.ins C dx []) ∧ H a = some (.lst (zs.map V.str)) ∧ NamesOk zs ∧ ∀ H', But x H H' → BookAt K C H' x (newBk zs) → Q .non H'
theorem ok_init {f fc C : Addr} {fd fdc : FuncData} (F : Fun K "__init__" "Book.__init__" sInit f fd) (T : ClsF K C) (B : Blt mg) (B3 : Blt3 mg)
    (CP : Has P w K mg base 2 "check_persons" ["persons"] (spCheckP K) fc fdc) : FnOk P w K mg base CX0 3 f fd ["self", "persons"] (spInit K C) := by
  refine F.ok scInit (fun vs H Q E h => ?_) (fun cdv A outer s H vs Q E hr h => ?_)
  · obtain ⟨_, _, _, _, rfl, _⟩ := h
    rfl
  · obtain ⟨x, dx, a, zs, rfl, hx, ha, ok, q⟩ := h
    refine ⟨_, pss_cons (ps_expr (pe_call CP.ok hr (by rfl) CP.g CP.kp CP.b .nil pass0 (pa_cons (pv 1) pa_nil)))
      (pss_cons (ps_fld (pv 0) (pe_callTy call_tupF (by rfl) B3.tuple (by decide +kernel) (pa_cons (pv 1) pa_nil)) rfl)
      (pss_cons (ps_fld (pv 0) (pe_op op_repD (pe_tup (pa_cons pe_int pa_nil)) (pe_callB call_len_seq (by rfl) B.len PySem.boot_len (pa_cons (pv 1) pa_nil))) rfl)
      (pss_cons (ps_fld (pv 0) (pe_op op_repD (pe_tup (pa_cons (pe_tup pa_nil) pa_nil)) (pe_callB call_len_seq (by rfl) B.len PySem.boot_len (pa_cons (pv 1) pa_nil))) rfl)
      (pss_one (ps_fld (pv 0) (pe_op op_repD (pe_tup (pa_cons pe_int pa_nil)) (pe_callB call_len_seq (by rfl) B.len PySem.boot_len (pa_cons (pv 1) pa_nil))) rfl))))), ?_⟩
    have l0 := ok.n0
    have l1 := ok.n1
    have el : (zs.map V.str).length = zs.length := List.length_map ..
    have nxa : a ≠ x := ne_of ha hx (by intro z; cases z)
    refine ⟨.ref a, rfl, a, zs, rfl, ha, ok, fun H1 s1 => ?_⟩
    -- self.names = tuple(persons)
    refine ⟨.ref a, rfl, a, _, rfl, .inl (.inl (s1 _ _ ha)), fun tn on ntn don => ?_⟩
    have s2 : Same H1 (upd H1 tn (.frz on (.tup (zs.map V.str)))) := same_upd ntn
    have ntx : x ≠ tn := ne_of_none (s1 _ _ hx) ntn
    refine ⟨.ref x, rfl, x, C, dx, _, rfl, s2 _ _ (s1 _ _ hx), T.cl, T.n1, by show 0 < 1000; decide, ?_⟩
    rw [put1]
    generalize hH3 : upd (upd H1 tn (.frz on (.tup (zs.map V.str)))) x (.ins C dx [("names", V.ref tn)]) = H3
    have b3 : But x H H3 := by
      rw [← hH3]
      exact (same_but (s1.trans s2)).trans But.at
    have x3 : H3 x = some (.ins C dx [("names", V.ref tn)]) := by
      rw [← hH3, upd_same]
    have t3 : H3 tn = some (.frz on (.tup (zs.map V.str))) := by
      rw [← hH3, upd_ne ntx.symm, upd_same]
    -- self.gifts
    refine ⟨by show 1 ≤ sizeLine; decide, fun t1 nt1 => ?_⟩
    have s4 := same_upd (o := .tup [V.int 0]) nt1
    refine ⟨.ref a, rfl, a, _, rfl, .inl (.inl (.inl (s4 _ _ (b3 _ _ nxa ha)))), .int 0, zs.length, .tup (.inl (.inl upd_same)) (.cons (.int 0) .nil), by rw [el], l0, by omega, fun vg H5 s5 dg => ?_⟩
    have s35 := s4.trans s5
    refine ⟨.ref x, rfl, x, C, dx, _, rfl, s35 _ _ x3, T.cl, T.n2, by show 1 < 1000; decide, ?_⟩
    rw [put2]
    have k6 : KT H5 (upd H5 x (.ins C dx [("names", V.ref tn), ("gifts", vg)])) := kt_upd (s35 _ _ x3) (fun z => z)
    have b6 : But x H (upd H5 x (.ins C dx [("names", V.ref tn), ("gifts", vg)])) := b3.trans ((same_but s35).trans But.at)
    have k36 : KT H3 (upd H5 x (.ins C dx [("names", V.ref tn), ("gifts", vg)])) := (kt_same s35).trans k6
    generalize hH6 : upd H5 x (.ins C dx [("names", V.ref tn), ("gifts", vg)]) = H6 at k6 b6 k36
    have x6 : H6 x = some (.ins C dx [("names", V.ref tn), ("gifts", vg)]) := by
      rw [← hH6, upd_same]
    have dg6 := Dt.keepT k6 _ (by rw [← List.map_replicate]; exact tup_ints _) dg
    -- self.stacks
    refine ⟨by show 0 ≤ sizeLine; decide, fun t0 nt0 => ⟨by show 1 ≤ sizeLine; decide, fun t2 nt2 => ?_⟩⟩
    have s7 := (same_upd (o := .tup []) nt0).trans (same_upd (o := .tup [V.ref t0]) nt2)
    refine ⟨.ref a, rfl, a, _, rfl, .inl (.inl (.inl (s7 _ _ (b6 _ _ nxa ha)))), .tuple [], zs.length, .tup (.inl (.inl upd_same)) (.cons (.tup (.inl (.inl (same_upd nt2 _ _ upd_same))) .nil) .nil), by rw [el], l0, by omega, fun vs H8 s8 ds => ?_⟩
    have s68 := s7.trans s8
    refine ⟨.ref x, rfl, x, C, dx, _, rfl, s68 _ _ x6, T.cl, T.n3, by show 2 < 1000; decide, ?_⟩
    rw [put3]
    have k9 : KT H8 (upd H8 x (.ins C dx [("names", V.ref tn), ("gifts", vg), ("stacks", vs)])) := kt_upd (s68 _ _ x6) (fun z => z)
    have b9 : But x H (upd H8 x (.ins C dx [("names", V.ref tn), ("gifts", vg), ("stacks", vs)])) := b6.trans ((same_but s68).trans But.at)
    have k69 : KT H6 (upd H8 x (.ins C dx [("names", V.ref tn), ("gifts", vg), ("stacks", vs)])) := (kt_same s68).trans k9
    generalize hH9 : upd H8 x (.ins C dx [("names", V.ref tn), ("gifts", vg), ("stacks", vs)]) = H9 at k9 b9 k69
    have x9 : H9 x = some (.ins C dx [("names", V.ref tn), ("gifts", vg), ("stacks", vs)]) := by
      rw [← hH9, upd_same]
    have ts : tupD (.tuple (List.replicate zs.length (.tuple []))) = true := by
      have := tup_stacks (List.replicate zs.length [])
      rw [List.map_replicate] at this
      exact this
    have ds9 := Dt.keepT k9 _ ts ds
    -- self.drops
    refine ⟨by show 1 ≤ sizeLine; decide, fun t3' nt3 => ?_⟩
    have s10 := same_upd (o := .tup [V.int 0]) nt3
    refine ⟨.ref a, rfl, a, _, rfl, .inl (.inl (.inl (s10 _ _ (b9 _ _ nxa ha)))), .int 0, zs.length, .tup (.inl (.inl upd_same)) (.cons (.int 0) .nil), by rw [el], l0, by omega, fun vd H11 s11 dd => ?_⟩
    have s911 := s10.trans s11
    refine ⟨.ref x, rfl, x, C, dx, _, rfl, s911 _ _ x9, T.cl, T.n4, by show 3 < 1000; decide, ?_⟩
    rw [put4]
    have k12 : KT H11 (upd H11 x (.ins C dx (bf (.ref tn) vg vs vd))) := kt_upd (s911 _ _ x9) (fun z => z)
    have k912 : KT H9 (upd H11 x (.ins C dx (bf (.ref tn) vg vs vd))) := (kt_same s911).trans k12
    refine q _ (b9.trans ((same_but s911).trans But.at)) ⟨dx, tn, on, vg, vs, vd, upd_same, (k36.trans (k69.trans k912)) _ _ t3 trivial, don, ?_, ?_, ?_⟩
    · show Dt K _ vg (.tuple ((List.replicate zs.length (0 : Int)).map .int))
      rw [List.map_replicate]
      exact Dt.keepT (k69.trans k912) _ (by rw [← List.map_replicate]; exact tup_ints _) dg6
    · show Dt K _ vs (.tuple ((List.replicate zs.length []).map stackD))
      rw [List.map_replicate]
      exact Dt.keepT k912 _ ts ds9
    · show Dt K _ vd (.tuple ((List.replicate zs.length (0 : Int)).map .int))
      rw [List.map_replicate]
      exact Dt.keepT k12 _ (by rw [← List.map_replicate]; exact tup_ints _) dd
end
end Rc

namespace Rc
open PySem PySem.Spec PyProof.Rows L2
theorem book_same {K : PySem.W.Frag} {C : Addr} {H H' : Hp} {b : Addr} {M : Bk} (h : BookAt K C H b M) (s : Same H H') : BookAt K C H' b M := h.keep fun b o e _ => s b o e
theorem NoF.mk' {m : Str} (h : ((m == "names") || (m == "gifts") || (m == "stacks") || (m == "drops")) = false) : NoF m := by
  simp only [Bool.or_eq_false_iff] at h
  exact ⟨h.1.1.1, h.1.1.2, h.1.2, h.2⟩
section
variable {P : Program} {w : World} {K : PySem.W.Frag} {mg : Str → Option Value} {base : Heap}
/-! ### with_these -/
abbrev sWith : Stmt := inBook 1
theorem scWith : FnScope ["self", "gifts", "stacks", "drops", "other"] ["self", "gifts", "stacks", "drops"] (defScope sWith) := ⟨rfl, rfl, rfl, by decide +kernel, rfl, by decide +kernel, by decide +kernel⟩
def spWith (K : PySem.W.Frag) (C : Addr) : Sp := fun vs H Q _ => ∃ b M vg vs' vd gs ss ds, vs = [.ref b, vg, vs', vd] ∧ BookAt K C H b M ∧ NamesOk M.names ∧ Dt K H vg (.tuple (List.map PyData.int gs)) ∧ Dt K H vs' (.tuple (List.map stackD ss)) ∧ Dt K H vd (.tuple (List.map PyData.int ds)) ∧
  ∀ b' H', Same H H' → H b' = none → BookAt K C H' b' ⟨M.names, gs, ss, ds⟩ → Q (.ref b') H'
theorem ok_with {f fi C : Addr} {fd fdi : FuncData} (F : Fun K "with_these" "Book.with_these" sWith f fd) (T : ClsF K C) (B3 : Blt3 mg) (M : Mk K C fi) (gC : mg "Book" = some (.ref C))
    (GI : FnOk P w K mg base CX0 3 fi fdi ["self", "persons"] (spInit K C)) (bI : Binds K fdi ["self", "persons"] []) : FnOk P w K mg base CX0 5 f fd ["self", "gifts", "stacks", "drops"] (spWith K C) := by
  refine F.ok scWith (fun vs H Q E h => ?_) (fun cdv A outer s H vs Q E hr h => ?_)
  · obtain ⟨_, _, _, _, _, _, _, _, rfl, _⟩ := h
    rfl
  · obtain ⟨b, Mb, vg, vs', vd, gs, ss, ds, rfl, hb, ok, hg, hs, hd, q⟩ := h
    refine ⟨_, pss_cons (ps_set (i := 4) scWith.nd rfl (.inl rfl) (pe_make M GI hr (by rfl) gC bI .nil pass0 (pa_cons (pe_callTy call_list_of (by rfl) B3.list (by decide +kernel) (pa_cons (pe_fld (pv 0) rfl) pa_nil)) pa_nil)))
      (pss_cons (ps_fld (pv 4) (pv 1) rfl) (pss_cons (ps_fld (pv 4) (pv 2) rfl) (pss_cons (ps_fld (pv 4) (pv 3) rfl) (pss_one (ps_ret (pv 4)))))), ?_⟩
    obtain ⟨dx, tn, on, wg, ws, wd, e, h1, hn, h2, h3, h4⟩ := hb.ex
    refine ⟨.ref b, rfl, b, C, dx, _, _, rfl, e, T.cl, T.n1, bf_names, tn, _, rfl, .inr (.inl (.inr ⟨on, h1⟩)), fun l nl => ?_⟩
    intro x dy nx ndy nxy
    have s1 := same_upd (o := .lst (Mb.names.map V.str)) nl
    generalize hH1 : upd H l (.lst (Mb.names.map V.str)) = H1 at s1 nx ndy
    have hl : H1 l = some (.lst (Mb.names.map V.str)) := by
      rw [← hH1, upd_same]
    have nlx : l ≠ x := ne_of_none hl nx
    have nld : l ≠ dy := ne_of_none hl ndy
    have s2 : Same H1 (upd (upd H1 dy (.own x)) x (.ins C dy [])) := fun c o e => by
      rw [upd_ne (ne_of_none e nx), upd_ne (ne_of_none e ndy)]
      exact e
    refine ⟨x, dy, l, Mb.names, rfl, upd_same, s2 _ _ hl, ok, fun H2 b2 bk => ⟨rfl, ?_⟩⟩
    have nxH : H x = none := s1.free nx
    have s02 : Same H H2 := fun c o e => b2 c o (ne_of_none e nxH) (s2 c o (s1 c o e))
    obtain ⟨dx2, tn2, on2, ug, us, ud, e2, k1, kn, k2, k3, k4⟩ := bk.ex
    -- other.gifts = gifts; other.stacks = stacks; other.drops = drops
    refine ⟨vg, rfl, .ref x, rfl, x, C, dx2, _, rfl, e2, T.cl, T.n2, bf_len _ _ _ _, ?_⟩
    rw [putG]
    refine ⟨vs', rfl, .ref x, rfl, x, C, dx2, _, rfl, upd_same, T.cl, T.n3, bf_len _ _ _ _, ?_⟩
    rw [putS]
    refine ⟨vd, rfl, .ref x, rfl, x, C, dx2, _, rfl, upd_same, T.cl, T.n4, bf_len _ _ _ _, ?_⟩
    rw [putD, upd_upd, upd_upd]
    have kt : KT H2 (upd H2 x (.ins C dx2 (bf (.ref tn2) vg vs' vd))) := kt_upd e2 fun z => z
    have s03 : Same H (upd H2 x (.ins C dx2 (bf (.ref tn2) vg vs' vd))) := fun c o e => by
      rw [upd_ne (ne_of_none e nxH)]
      exact s02 c o e
    exact ⟨.ref x, rfl, q x _ s03 nxH ⟨dx2, tn2, on2, vg, vs', vd, upd_same, kt _ _ k1 trivial, kn, Dt.same s03 _ hg, Dt.same s03 _ hs, Dt.same s03 _ hd⟩⟩
/-! ### has, place_of, persons -/
abbrev sHas : Stmt := inBook 4
theorem scHas : FnScope ["self", "who"] ["self", "who"] (defScope sHas) := ⟨rfl, rfl, rfl, by decide +kernel, rfl, by decide +kernel, by decide +kernel⟩
def hasD (M : Bk) : PyData → Bool
  | .str z => decide (z ∈ M.names)
  | _ => false
def spHas (K : PySem.W.Frag) (C : Addr) : Sp := fun vs H Q _ => ∃ b M v d, vs = [.ref b, v] ∧ BookAt K C H b M ∧ NamesOk M.names ∧ Dt K H v d ∧ ShortD d ∧ ∀ H', Same H H' → Q (.bl (hasD M d)) H'
theorem ok_has {f fN C : Addr} {fd fdN : FuncData} (F : Fun K "has" "Book.has" sHas f fd) (T : ClsF K C) (N : Has P w K mg base 1 "is_name" ["thing"] (spBool K nameD) fN fdN) :
    FnOk P w K mg base CX0 2 f fd ["self", "who"] (spHas K C) := by
  refine F.ok scHas (fun vs H Q E h => ?_) (fun cdv A outer s H vs Q E hr h => ?_)
  · obtain ⟨_, _, _, _, rfl, _⟩ := h
    rfl
  · obtain ⟨b, M, v, d, rfl, hb, ok, hd, sd, q⟩ := h
    refine ⟨_, pss_one (ps_ret (pe_and (pe_call N.ok hr (by rfl) N.g N.kp N.b .nil pass0 (pa_cons (pv 1) pa_nil)) (pe_one (pe_cmpR op_in_seq (pv 1) (pe_fld (pv 0) rfl) (by rfl))))), ?_⟩
    refine ⟨v, rfl, v, d, rfl, hd, sd, fun H1 s1 => ⟨_, rfl, ?_⟩⟩
    obtain ⟨dx, tn, on, wg, ws, wd, e, h1, hn, h2, h3, h4⟩ := (book_same hb s1).ex
    have q1 := q H1 s1
    cases hd with
    | str z =>
      by_cases hm : z ∈ M.names
      · have en : nameD (.str z) = true := ok.nm z hm
        rw [en]
        refine iteT ⟨.str z, rfl, .ref b, rfl, b, C, dx, _, _, rfl, e, T.cl, T.n1, bf_names, tn, _, rfl, .inr (.inl (.inr ⟨on, h1⟩)), rfl, flat_strs _, ?_⟩
        show Q (.bl (inV (.str z) (M.names.map V.str))) H1
        rw [inV_strs]
        exact q1
      · have eh : hasD M (.str z) = false := decide_eq_false hm
        rw [eh] at q1
        cases en : nameD (.str z) with
        | false => exact iteF q1
        | true =>
          refine iteT ⟨.str z, rfl, .ref b, rfl, b, C, dx, _, _, rfl, e, T.cl, T.n1, bf_names, tn, _, rfl, .inr (.inl (.inr ⟨on, h1⟩)), rfl, flat_strs _, ?_⟩
          show Q (.bl (inV (.str z) (M.names.map V.str))) H1
          rw [inV_strs, decide_eq_false hm]
          exact q1
    | _ => exact iteF q1
abbrev sPlace : Stmt := inBook 2
theorem scPlace : FnScope ["self", "who"] ["self", "who"] (defScope sPlace) := ⟨rfl, rfl, rfl, by decide +kernel, rfl, by decide +kernel, by decide +kernel⟩
/-- the j-th person is called z -/
def spPlace (K : PySem.W.Frag) (C : Addr) : Sp := fun vs H Q _ => ∃ (b : Addr) (M : Bk) (z : Str) (j : Nat), vs = [.ref b, .str z] ∧ BookAt K C H b M ∧ NamesOk M.names ∧ M.names[j]? = some z ∧ ∀ H', Same H H' → Q (.int (j : Nat)) H'
theorem name_at {zs : List Str} (ok : NamesOk zs) {j : Nat} {z : Str} (e : zs[j]? = some z) : z ∈ zs ∧ (∀ m, m < j → zs[m]? ≠ some z) ∧ z.length ≤ 1000 := by
  have hm := List.mem_of_getElem? e
  refine ⟨hm, fun m hm' e' => ?_, by have := (nameT_len (ok.nm z hm)).2; omega⟩
  obtain ⟨h1, e1⟩ := List.getElem?_eq_some_iff.mp e
  obtain ⟨h2, e2⟩ := List.getElem?_eq_some_iff.mp e'
  have := (List.getElem_inj ok.nd).mp (e1.trans e2.symm)
  omega
theorem ok_place {f fh C : Addr} {fd fdh : FuncData} (F : Fun K "place_of" "Book.place_of" sPlace f fd) (T : ClsF K C) (HS : HasM P w K mg base C 2 "has" ["self", "who"] (spHas K C) fh fdh) :
    FnOk P w K mg base CX0 3 f fd ["self", "who"] (spPlace K C) := by
  refine F.ok scPlace (fun vs H Q E h => ?_) (fun cdv A outer s H vs Q E hr h => ?_)
  · obtain ⟨_, _, _, _, rfl, _⟩ := h
    rfl
  · obtain ⟨b, M, z, j, rfl, hb, ok, ej, q⟩ := h
    obtain ⟨hm, hf, hz⟩ := name_at ok ej
    refine ⟨_, pss_cons (ps_if (pt_not (pt_val (pe_meth (pv 0) T.cl HS.m HS.ok hr HS.b .nil pass0 (pa_cons (pv 1) pa_nil)))) pss_never pss_nil)
      (pss_one (ps_ret (pe_bmF PySem.F.slot_tuple_index PySem.F.type_tuple_index mt_tup_index (pe_fld (pv 0) rfl) (pa_cons (pv 1) pa_nil)))), ?_⟩
    obtain ⟨dx, tn, on, wg, ws, wd, e, h1, hn, h2, h3, h4⟩ := hb.ex
    refine ⟨.ref b, rfl, b, dx, _, rfl, e, bf_no (NoF.mk' (by decide +kernel)), .str z, rfl, b, M, .str z, .str z, rfl, hb, ok, .str z, (fun y ey => by cases ey; exact hz), fun H1 s1 => ⟨_, rfl, ?_⟩⟩
    have eh : hasD M (.str z) = true := decide_eq_true hm
    rw [eh]
    refine iteF ⟨.ref b, rfl, b, C, dx, _, _, rfl, s1 _ _ e, T.cl, T.n1, bf_names, tn, on, _, rfl, s1 _ _ h1, hn, .str z, rfl, tn, M.names, z, j, rfl, rfl, .inl (.inr ⟨on, s1 _ _ h1⟩), ej, hf, q H1 s1⟩
abbrev sPersons : Stmt := inBook 3
theorem scPersons : FnScope ["self"] ["self"] (defScope sPersons) := ⟨rfl, rfl, rfl, by decide +kernel, rfl, by decide +kernel, by decide +kernel⟩
def spPersons (K : PySem.W.Frag) (C : Addr) : Sp := fun vs H Q _ => ∃ b M, vs = [.ref b] ∧ BookAt K C H b M ∧ ∀ l, H l = none → Q (.ref l) (upd H l (.lst (M.names.map V.str)))
theorem ok_persons {f C : Addr} {fd : FuncData} (F : Fun K "persons" "Book.persons" sPersons f fd) (T : ClsF K C) (B3 : Blt3 mg) : FnOk P w K mg base CX0 1 f fd ["self"] (spPersons K C) := by
  refine F.ok scPersons (fun vs H Q E h => ?_) (fun cdv A outer s H vs Q E hr h => ?_)
  · obtain ⟨_, _, rfl, _⟩ := h
    rfl
  · obtain ⟨b, M, rfl, hb, q⟩ := h
    refine ⟨_, pss_one (ps_ret (pe_callTy call_list_of (by rfl) B3.list (by decide +kernel) (pa_cons (pe_fld (pv 0) rfl) pa_nil))), ?_⟩
    obtain ⟨dx, tn, on, wg, ws, wd, e, h1, hn, h2, h3, h4⟩ := hb.ex
    exact ⟨.ref b, rfl, b, C, dx, _, _, rfl, e, T.cl, T.n1, bf_names, tn, _, rfl, .inr (.inl (.inr ⟨on, h1⟩)), q⟩
/-! ### given, fallen, notes, pile -/
abbrev sGiven : Stmt := inBook 5
abbrev sFallen : Stmt := inBook 6
abbrev sNotes : Stmt := inBook 7
abbrev sPile : Stmt := inBook 8
theorem scGiven : FnScope ["self", "who"] ["self", "who"] (defScope sGiven) := ⟨rfl, rfl, rfl, by decide +kernel, rfl, by decide +kernel, by decide +kernel⟩
theorem scFallen : FnScope ["self", "who"] ["self", "who"] (defScope sFallen) := ⟨rfl, rfl, rfl, by decide +kernel, rfl, by decide +kernel, by decide +kernel⟩
theorem scNotes : FnScope ["self", "who"] ["self", "who"] (defScope sNotes) := ⟨rfl, rfl, rfl, by decide +kernel, rfl, by decide +kernel, by decide +kernel⟩
theorem scPile : FnScope ["self", "who", "gone", "left"] ["self", "who"] (defScope sPile) := ⟨rfl, rfl, rfl, by decide +kernel, rfl, by decide +kernel, by decide +kernel⟩
/-- a number of the j-th person -/
def spNum (K : PySem.W.Frag) (C : Addr) (g : Bk → List Int) : Sp := fun vs H Q _ => ∃ (b : Addr) (M : Bk) (z : Str) (j : Nat) (n : Int), vs = [.ref b, .str z] ∧ BookAt K C H b M ∧ NamesOk M.names ∧ M.names[j]? = some z ∧ (g M)[j]? = some n ∧ ∀ H', Same H H' → Q (.int n) H'
/-- a new list of notes of the j-th person -/
def spRow (K : PySem.W.Frag) (C : Addr) (g : List (Str × Int) → Int → List (Str × Int)) : Sp := fun vs H Q _ => ∃ (b : Addr) (M : Bk) (z : Str) (j : Nat) (l : List (Str × Int)) (n : Int), vs = [.ref b, .str z] ∧ BookAt K C H b M ∧ NamesOk M.names ∧ M.names[j]? = some z ∧
  M.stacks[j]? = some l ∧ M.drops[j]? = some n ∧ l.length ≤ 100 ∧ ∀ r xs H', Same H H' → H r = none → H' r = some (.lst xs) → DtAll K H' xs (notesD (g l n)) → Q (.ref r) H'
theorem map_get {α β : Type} {f : α → β} {l : List α} {j : Nat} {x : α} (h : l[j]? = some x) : (l.map f)[j]? = some (f x) := by
  rw [List.getElem?_map, h]
  rfl
theorem ok_given {f fp C : Addr} {fd fdp : FuncData} (F : Fun K "given" "Book.given" sGiven f fd) (T : ClsF K C) (PL : HasM P w K mg base C 3 "place_of" ["self", "who"] (spPlace K C) fp fdp) :
    FnOk P w K mg base CX0 4 f fd ["self", "who"] (spNum K C Bk.gifts) := by
  refine F.ok scGiven (fun vs H Q E h => ?_) (fun cdv A outer s H vs Q E hr h => ?_)
  · obtain ⟨_, _, _, _, _, rfl, _⟩ := h
    rfl
  · obtain ⟨b, M, z, j, n, rfl, hb, ok, ej, en, q⟩ := h
    refine ⟨_, pss_one (ps_ret (pe_ix ix_tupD (pe_fld (pv 0) rfl) (pe_meth (pv 0) T.cl PL.m PL.ok hr PL.b .nil pass0 (pa_cons (pv 1) pa_nil)) (fun _ _ => rfl))), ?_⟩
    obtain ⟨dx, tn, on, wg, ws, wd, e, h1, hn, h2, h3, h4⟩ := hb.ex
    refine ⟨.ref b, rfl, b, C, dx, _, _, rfl, e, T.cl, T.n2, bf_gifts, .ref b, rfl, b, dx, _, rfl, e, bf_no (NoF.mk' (by decide +kernel)), .str z, rfl, b, M, z, j, rfl, hb, ok, ej, fun H1 s1 => ?_⟩
    exact ⟨_, j, .int n, Dt.same s1 _ h2, rfl, map_get en, fun v dv => by cases dv; exact q H1 s1⟩
theorem ok_fallen {f fp C : Addr} {fd fdp : FuncData} (F : Fun K "fallen" "Book.fallen" sFallen f fd) (T : ClsF K C) (PL : HasM P w K mg base C 3 "place_of" ["self", "who"] (spPlace K C) fp fdp) :
    FnOk P w K mg base CX0 4 f fd ["self", "who"] (spNum K C Bk.drops) := by
  refine F.ok scFallen (fun vs H Q E h => ?_) (fun cdv A outer s H vs Q E hr h => ?_)
  · obtain ⟨_, _, _, _, _, rfl, _⟩ := h
    rfl
  · obtain ⟨b, M, z, j, n, rfl, hb, ok, ej, en, q⟩ := h
    refine ⟨_, pss_one (ps_ret (pe_ix ix_tupD (pe_fld (pv 0) rfl) (pe_meth (pv 0) T.cl PL.m PL.ok hr PL.b .nil pass0 (pa_cons (pv 1) pa_nil)) (fun _ _ => rfl))), ?_⟩
    obtain ⟨dx, tn, on, wg, ws, wd, e, h1, hn, h2, h3, h4⟩ := hb.ex
    refine ⟨.ref b, rfl, b, C, dx, _, _, rfl, e, T.cl, T.n4, bf_drops, .ref b, rfl, b, dx, _, rfl, e, bf_no (NoF.mk' (by decide +kernel)), .str z, rfl, b, M, z, j, rfl, hb, ok, ej, fun H1 s1 => ?_⟩
    exact ⟨_, j, .int n, Dt.same s1 _ h4, rfl, map_get en, fun v dv => by cases dv; exact q H1 s1⟩
theorem ok_notes {f fp C : Addr} {fd fdp : FuncData} (F : Fun K "notes" "Book.notes" sNotes f fd) (T : ClsF K C) (B3 : Blt3 mg) (PL : HasM P w K mg base C 3 "place_of" ["self", "who"] (spPlace K C) fp fdp) :
    FnOk P w K mg base CX0 4 f fd ["self", "who"] (spRow K C fun l _ => l) := by
  refine F.ok scNotes (fun vs H Q E h => ?_) (fun cdv A outer s H vs Q E hr h => ?_)
  · obtain ⟨_, _, _, _, _, _, rfl, _⟩ := h
    rfl
  · obtain ⟨b, M, z, j, l, n, rfl, hb, ok, ej, el, en, hl, q⟩ := h
    refine ⟨_, pss_one (ps_ret (pe_callTy call_listD (by rfl) B3.list (by decide +kernel) (pa_cons (pe_ix ix_tupD (pe_fld (pv 0) rfl) (pe_meth (pv 0) T.cl PL.m PL.ok hr PL.b .nil pass0 (pa_cons (pv 1) pa_nil)) (fun _ _ => rfl)) pa_nil))), ?_⟩
    obtain ⟨dx, tn, on, wg, ws, wd, e, h1, hn, h2, h3, h4⟩ := hb.ex
    refine ⟨.ref b, rfl, b, C, dx, _, _, rfl, e, T.cl, T.n3, bf_stacks, .ref b, rfl, b, dx, _, rfl, e, bf_no (NoF.mk' (by decide +kernel)), .str z, rfl, b, M, z, j, rfl, hb, ok, ej, fun H1 s1 => ?_⟩
    refine ⟨_, j, stackD l, Dt.same s1 _ h3, rfl, map_get el, fun v dv => ⟨v, _, rfl, .inl dv, fun r xs nr dx => ?_⟩⟩
    exact q r xs _ (s1.trans (same_upd nr)) (s1.free nr) upd_same (DtAll.same (same_upd nr) _ dx)
theorem ok_pile {f fs fn ff C : Addr} {fd fds fdn fdf : FuncData} (F : Fun K "pile" "Book.pile" sPile f fd) (T : ClsF K C) (SP : Has P w K mg base 1 "split_notes" ["notes", "fallen"] (spSplit K) fs fds)
    (NT : HasM P w K mg base C 4 "notes" ["self", "who"] (spRow K C fun l _ => l) fn fdn) (FL : HasM P w K mg base C 4 "fallen" ["self", "who"] (spNum K C Bk.drops) ff fdf) :
    FnOk P w K mg base CX0 5 f fd ["self", "who"] (spRow K C leftN) := by
  refine F.ok scPile (fun vs H Q E h => ?_) (fun cdv A outer s H vs Q E hr h => ?_)
  · obtain ⟨_, _, _, _, _, _, rfl, _⟩ := h
    rfl
  · obtain ⟨b, M, z, j, l, n, rfl, hb, ok, ej, el, en, hl, q⟩ := h
    refine ⟨_, pss_cons (ps_asg (pe_call SP.ok (hr.mono (by decide)) (by rfl) SP.g SP.kp SP.b .nil pass0 (pa_cons (pe_meth (pv 0) T.cl NT.m NT.ok hr NT.b .nil pass0 (pa_cons (pv 1) pa_nil))
        (pa_cons (pe_meth (pv 0) T.cl FL.m FL.ok hr FL.b .nil pass0 (pa_cons (pv 1) pa_nil)) pa_nil)))
        (pg_tup rfl (pgs_cons (pg_name (i := 2) scPile.nd rfl (.inl rfl)) (pgs_cons (pg_name (i := 3) scPile.nd rfl (.inl rfl)) pgs_nil))))
      (pss_one (ps_ret (pv 3))), ?_⟩
    obtain ⟨dx, tn, on, wg, ws, wd, e, h1, hn, h2, h3, h4⟩ := hb.ex
    refine ⟨.ref b, rfl, b, dx, _, rfl, e, bf_no (NoF.mk' (by decide +kernel)), .str z, rfl, b, M, z, j, l, n, rfl, hb, ok, ej, el, en, hl, fun r xs H1 s1 nr hr' dr => ?_⟩
    refine ⟨.ref b, rfl, b, dx, _, rfl, s1 _ _ e, bf_no (NoF.mk' (by decide +kernel)), .str z, rfl, b, M, z, j, n, rfl, book_same hb s1, ok, ej, en, fun H2 s2 => ?_⟩
    refine ⟨r, xs, true, l, n, rfl, .inl (.inl (s2 _ _ hr')), DtAll.same s2 _ dr, hl, fun t g m gx mx H3 s3 ht ng nm gm hg hm dg dm => ?_⟩
    refine ⟨t, _, rfl, .inl (.inl ht), rfl, _, _, rfl, _, _, rfl, rfl, .ref m, rfl, ?_⟩
    exact q m mx H3 (s1.trans (s2.trans s3)) ((s1.trans s2).free nm) hm dm
end
end Rc

namespace Rc
open PySem PySem.Spec PyProof.Rows L2 RZ
theorem walk_zipT {K : PySem.W.Frag} {a b : Addr} {xs ys : List V} {n : Nat} (hn : n = min xs.length ys.length) : Walk (ItzT K a b) n (fun H => SqT K H a xs ∧ SqT K H b ys) (YPair (fun i => xs[i]?) (fun i => ys[i]?)) := by
  subst hn
  refine ⟨fun i _ hi q => ?_, fun _ q => ⟨xs, ys, q.1, q.2, by omega⟩, fun i H v H' _ q y => ?_⟩
  · have h1 : i < xs.length := by omega
    have h2 : i < ys.length := by omega
    exact ⟨xs, ys, xs[i], ys[i], q.1, q.2, by simp [h1], by simp [h2]⟩
  · obtain ⟨T, x, z, g1, g2, g3, g4, g5⟩ := y
    exact ⟨T, x, z, g1, g2, g3, g4 xs q.1, g5 ys q.2⟩
def sumTo (z : Str) (l : List (Str × Int)) : Int := ((l.filter fun n => decide (n.1 = z)).map (·.2)).sum
def fallTo (M : Bk) (z : Str) : Int := ((M.stacks.zip M.drops).map fun p => sumTo z (goneN p.1 p.2)).sum
theorem len_le_sum : ∀ {l : List (List (Str × Int))} {x : List (Str × Int)}, x ∈ l → x.length ≤ (l.map List.length).sum
  | [], _, h => by cases h
  | y :: r, x, h => by
    rw [List.map_cons, List.sum_cons]
    rcases List.mem_cons.mp h with e | e
    · rw [e]
      exact Nat.le_add_right _ _
    · have := len_le_sum e
      omega
theorem Bk.Ok.row {M : Bk} (h : M.Ok) {l : List (Str × Int)} (hm : l ∈ M.stacks) : l.length ≤ 60 := Nat.le_trans (len_le_sum hm) h.many
theorem Bk.Ok.at_ {M : Bk} (h : M.Ok) {j : Nat} {z : Str} (e : M.names[j]? = some z) : ∃ g l d, M.gifts[j]? = some g ∧ M.stacks[j]? = some l ∧ M.drops[j]? = some d ∧ l.length ≤ 60 := by
  have hj : j < M.names.length := (List.getElem?_eq_some_iff.mp e).1
  have h1 : j < M.gifts.length := by rw [h.lg]; exact hj
  have h2 : j < M.stacks.length := by rw [h.ls]; exact hj
  have h3 : j < M.drops.length := by rw [h.ld]; exact hj
  exact ⟨_, _, _, List.getElem?_eq_getElem h1, List.getElem?_eq_getElem h2, List.getElem?_eq_getElem h3, h.row (List.getElem_mem h2)⟩
section
variable {P : Program} {w : World} {K : PySem.W.Frag} {mg : Str → Option Value} {base : Heap}
/-! ### fallen_to -/
abbrev sFallTo : Stmt := inBook 10
abbrev nFallTo : List Str := ["self", "who", "name", "total", "stack", "drop", "gone", "left", "to", "part"]
theorem scFallTo : FnScope nFallTo ["self", "who"] (defScope sFallTo) := ⟨rfl, rfl, rfl, by decide +kernel, rfl, by decide +kernel, by decide +kernel⟩
def spCalc (K : PySem.W.Frag) (C : Addr) (g : Bk → Nat → Str → Int) : Sp := fun vs H Q _ => ∃ (b : Addr) (M : Bk) (z : Str) (j : Nat), vs = [.ref b, .str z] ∧ BookAt K C H b M ∧ M.Ok ∧ M.names[j]? = some z ∧ ∀ H', Same H H' → Q (.int (g M j z)) H'
theorem ok_fallTo {f fp fs C : Addr} {fd fdp fds : FuncData} (F : Fun K "fallen_to" "Book.fallen_to" sFallTo f fd) (T : ClsF K C) (B3 : Blt3 mg) (PL : HasM P w K mg base C 3 "place_of" ["self", "who"] (spPlace K C) fp fdp)
    (SP : Has P w K mg base 1 "split_notes" ["notes", "fallen"] (spSplit K) fs fds) : FnOk P w K mg base CX0 4 f fd ["self", "who"] (spCalc K C fun M _ z => fallTo M z) := by
  refine F.ok scFallTo (fun vs H Q E h => ?_) (fun cdv A outer s H vs Q E hr h => ?_)
  · obtain ⟨_, _, _, _, rfl, _⟩ := h
    rfl
  · obtain ⟨b, M, z, j, rfl, hb, ok, ej, q⟩ := h
    refine ⟨_, pss_cons (ps_set (i := 2) scFallTo.nd rfl (.inr rfl) (pe_ix ix_tup (pe_fld (pv 0) rfl) (pe_meth (pv 0) T.cl PL.m PL.ok hr PL.b .nil pass0 (pa_cons (pv 1) pa_nil)) (fun _ _ => rfl)))
      (pss_cons (ps_set (i := 3) scFallTo.nd rfl (.inl rfl) pe_int)
      (pss_cons (ps_for PassesOwn.never rfl (pi_zipA (by rfl) B3.zip (pa_cons (pe_fld (pv 0) rfl) (pa_cons (pe_fld (pv 0) rfl) pa_nil))) (pg_tup rfl (pgs_cons (pg_name (i := 4) scFallTo.nd rfl (.inl rfl)) (pgs_cons (pg_name (i := 5) scFallTo.nd rfl (.inl rfl)) pgs_nil)))
        (pss_cons (ps_asg (pe_call SP.ok (hr.mono (by decide)) (by rfl) SP.g SP.kp SP.b .nil pass0 (pa_cons (pv 4) (pa_cons (pv 5) pa_nil))) (pg_tup rfl (pgs_cons (pg_name (i := 6) scFallTo.nd rfl (.inl rfl)) (pgs_cons (pg_name (i := 7) scFallTo.nd rfl (.inl rfl)) pgs_nil))))
        (pss_one (ps_aug (i := 3) scFallTo.nd rfl (.inl rfl) (pe_callB (cr_sum rfl) (by rfl) B3.sum (by decide +kernel) (pa_cons
          (pe_lc (own := [("to", 8), ("part", 9)]) (g := gTup K 2 (gCons (gName 8) (gCons (gName 9) gNil))) rfl scFallTo.nd (pi_list (pv 6)) (blkOk_by (N := nFallTo) (sc := defScope sFallTo) (own := [("to", 8), ("part", 9)]) (by decide +kernel))
            (fun _ _ _ _ _ => pg_tup rfl (pgs_cons (pg_name (i := 8) scFallTo.nd rfl (.inl rfl) (hf := .inr rfl)) (pgs_cons (pg_name (i := 9) scFallTo.nd rfl (.inl rfl) (hf := .inr rfl)) pgs_nil)))
            (fun _ _ _ _ _ => pts_one (pt_cmpR op_eq (pv 8) (pv 2) (nomark _))) (fun _ _ _ _ _ => pv 9)) pa_nil)) ip_add))))
      (pss_one (ps_ret (pv 3))))), ?_⟩
    obtain ⟨dx, tn, on, wg, ws, wd, e, h1, hn, h2, h3, h4⟩ := hb.ex
    refine ⟨.ref b, rfl, b, C, dx, _, _, rfl, e, T.cl, T.n1, bf_names, .ref b, rfl, b, dx, _, rfl, e, bf_no (NoF.mk' (by decide +kernel)), .str z, rfl, b, M, z, j, rfl, hb, ok.names, ej, fun H1 s1 => ?_⟩
    refine ⟨tn, _, _, .str z, rfl, rfl, .inl (.inr ⟨on, s1 _ _ h1⟩), atI_nat (map_get ej), ?_⟩
    have h3' := Dt.same s1 _ h3
    have h4' := Dt.same s1 _ h4
    obtain ⟨ta, xs, rfl, qa, da⟩ := h3'.tup_inv
    obtain ⟨tb, ys, rfl, qb, db⟩ := h4'.tup_inv
    have ey := db.ints_eq
    subst ey
    refine ⟨.ref b, rfl, b, C, dx, _, _, rfl, s1 _ _ e, T.cl, T.n3, bf_stacks, .ref b, rfl, b, C, dx, _, _, rfl, s1 _ _ e, T.cl, T.n4, bf_drops, ta, tb, xs, _, rfl, .inr ⟨qa, qb, ?_⟩⟩
    have lx : xs.length = M.names.length := by
      rw [da.len, List.length_map, ok.ls]
    have ly : (M.drops.map V.int).length = M.names.length := by
      rw [List.length_map, ok.ld]
    refine for_it (walk_zipT (xs := xs) (ys := M.drops.map V.int) (n := M.names.length) (by rw [lx, ly, Nat.min_self])) (fun i σ H' => ∃ y4 y5 y6 y7 y8 y9, σ = [some (.ref b), some (.str z), some (.str z), some (.int (((M.stacks.zip M.drops).take i).map fun p => sumTo z (goneN p.1 p.2)).sum), y4, y5, y6, y7, y8, y9] ∧ Same H1 H')
      ⟨_, _, _, _, _, _, rfl, Same.refl _⟩ (fun i σ H' _ hP => ?_) (fun i x σ H2' H2 hi hP hY => ?_) (fun σ H' hP => ?_)
    · obtain ⟨_, _, _, _, _, _, _, s2⟩ := hP
      exact ⟨same_seqT s2 qa, same_seqT s2 qb⟩
    · obtain ⟨y4, y5, y6, y7, y8, y9, rfl, s2⟩ := hP
      obtain ⟨Tt, x1, x2, rfl, nT, rfl, e1, e2⟩ := hY
      have e1' : xs[i]? = some x1 := e1
      have e2' : (M.drops.map V.int)[i]? = some x2 := e2
      have hs : i < M.stacks.length := by rw [ok.ls]; exact hi
      have hdr : i < M.drops.length := by rw [ok.ld]; exact hi
      rw [List.getElem?_map, List.getElem?_eq_getElem hdr] at e2'
      have ex2 : x2 = .int M.drops[i] := (Option.some.inj e2').symm
      subst ex2
      obtain ⟨v1, g1, d1⟩ := da.get (n := i) (d := stackD M.stacks[i]) (map_get (List.getElem?_eq_getElem hs))
      rw [e1'] at g1
      cases g1
      have s3 := s2.trans (same_upd (o := .tup [x1, V.int M.drops[i]]) nT)
      obtain ⟨sa, sx, rfl, sq, sd⟩ := (Dt.same s3 _ d1).tup_inv
      refine ⟨Tt, _, rfl, .inl (.inl upd_same), rfl, _, _, rfl, _, _, rfl, rfl, ?_⟩
      refine ⟨.ref sa, rfl, _, rfl, sa, sx, false, M.stacks[i], M.drops[i], rfl, sq, sd, by have := ok.row (List.getElem_mem hs); omega, fun t g m gx mx H4 s4 ht ng nm gm hg hm dg dm => ?_⟩
      refine ⟨t, _, rfl, .inl (.inl ht), rfl, _, _, rfl, _, _, rfl, rfl, ?_⟩
      refine ⟨_, rfl, .ref g, rfl, g, rfl, ⟨_, .inl (.inl hg)⟩, fun D nD => ?_⟩
      generalize hG : goneN M.stacks[i] M.drops[i] = G at dg
      have lg : gx.length = G.length := by
        rw [dg.len]
        unfold notesD
        rw [List.length_map]
      have lG : G.length ≤ 60 := by
        rw [← hG]
        exact Nat.le_trans (goneN_len _ _) (ok.row (List.getElem_mem hs))
      refine lc_it (walk_list (xs := gx)) (fun i' H' => Same H4 H' ∧ H' D = some (.lst (((G.take i').filter fun n => decide (n.1 = z)).map fun n => .int n.2))) ⟨same_upd nD, upd_same⟩ (fun i' H' _ hP => hP.1.seq (.inl (.inl hg)))
        (fun i' x' H5' H5 hi' hP hY => ?_) (fun H5 hP => ?_)
      · obtain ⟨rfl, hx⟩ := hY
        obtain ⟨hil, dn⟩ := (DtAll.same hP.1 _ dg).notes_get hx
        obtain ⟨na, rfl, qn⟩ := note_inv dn
        refine ⟨na, _, rfl, qn, rfl, _, _, rfl, _, _, rfl, rfl, rfl, _, rfl, _, rfl, rfl, _, rfl, ?_⟩
        have tk : G.take (i' + 1) = G.take i' ++ [G[i']] := by
          rw [List.take_add_one, List.getElem?_eq_getElem hil]
          rfl
        by_cases hz : G[i'].1 = z
        · rw [show decide (V.str G[i'].1 = V.str z) = true from decide_eq_true (by rw [hz])]
          refine iteT ⟨_, rfl, _, hP.2, ?_, fun c o ec => ?_, ?_⟩
          · rw [List.length_map]
            have := List.length_filter_le (fun n : Str × Int => decide (n.1 = z)) (G.take i')
            rw [List.length_take] at this
            exact small1000 (by omega)
          · rw [upd_ne (ne_of_none ec nD)]
            exact hP.1 c o ec
          · rw [upd_same, tk, List.filter_append, List.map_append]
            simp [hz]
        · rw [show decide (V.str G[i'].1 = V.str z) = false from decide_eq_false (fun c => hz (V.str.inj c))]
          refine iteF ⟨hP.1, ?_⟩
          rw [hP.2, tk, List.filter_append]
          simp [hz]
      · refine ⟨D, (G.filter fun n => decide (n.1 = z)).map (·.2), rfl, .inl (.inl ?_), _, _, rfl, rfl, ?_⟩
        · rw [hP.2, lg, List.take_length, List.map_map]
          rfl
        refine ⟨some (.ref sa), some (.int M.drops[i]), some (.ref g), some (.ref m), y8, y9, ?_, s3.trans (s4.trans hP.1)⟩
        have tk : (M.stacks.zip M.drops).take (i + 1) = (M.stacks.zip M.drops).take i ++ [(M.stacks[i], M.drops[i])] := by
          rw [List.take_add_one, List.getElem?_zip_eq_some (z := (M.stacks[i], M.drops[i])) |>.mpr ⟨List.getElem?_eq_getElem hs, List.getElem?_eq_getElem hdr⟩]
          rfl
        rw [tk, List.map_append, List.sum_append]
        simp only [List.map_cons, List.map_nil, List.sum_cons, List.sum_nil, Int.add_zero]
        rw [hG]
        rfl
    · obtain ⟨y4, y5, y6, y7, y8, y9, rfl, s2⟩ := hP
      refine ⟨_, rfl, ?_⟩
      rw [List.take_of_length_le (by rw [List.length_zip, ok.ls, ok.ld, Nat.min_self]; exact Nat.le_refl _)]
      exact q _ (s1.trans s2)
end
end Rc

namespace Rc
open PySem PySem.Spec PyProof.Rows L2 RZ
def cashM (M : Bk) (j : Nat) (z : Str) : Int := M.gifts.getD j 0 + fallTo M z - M.drops.getD j 0
def putM (M : Bk) (j : Nat) (y : Str) (n : Int) : Bk := { M with stacks := M.stacks.set j (M.stacks.getD j [] ++ [(y, n)]) }
def giveM (M : Bk) (j : Nat) (n : Int) : Bk := { M with gifts := M.gifts.set j (M.gifts.getD j 0 + n) }
theorem getD_of {α : Type} {l : List α} {j : Nat} {x d : α} (h : l[j]? = some x) : l.getD j d = x := by
  rw [List.getD_eq_getElem?_getD, h]
  rfl
def rLenS (K : PySem.W.Frag) : List V → Hp → VK → Prop := fun xs H Q => ∃ p ys, xs = [V.ref p] ∧ (SqL K H p ys ∨ SqT K H p ys) ∧ Q (V.int ys.length) H
theorem call_lenS {X : Cx} {K : PySem.W.Frag} (e : X.K = K) : CallR X (.builtin "len") (rLenS K) := by
  subst e
  exact call_len_seq
def manyM (M : Bk) : Nat := (M.stacks.map List.length).sum
section
variable {P : Program} {w : World} {K : PySem.W.Frag} {mg : Str → Option Value} {base : Heap}
/-! ### cash -/
abbrev sCash : Stmt := inBook 11
theorem scCash : FnScope ["self", "who"] ["self", "who"] (defScope sCash) := ⟨rfl, rfl, rfl, by decide +kernel, rfl, by decide +kernel, by decide +kernel⟩
theorem ok_cash {f f1 f2 f3 C : Addr} {fd fd1 fd2 fd3 : FuncData} (F : Fun K "cash" "Book.cash" sCash f fd) (T : ClsF K C) (GV : HasM P w K mg base C 4 "given" ["self", "who"] (spNum K C Bk.gifts) f1 fd1)
    (FT : HasM P w K mg base C 4 "fallen_to" ["self", "who"] (spCalc K C fun M _ z => fallTo M z) f2 fd2) (FL : HasM P w K mg base C 4 "fallen" ["self", "who"] (spNum K C Bk.drops) f3 fd3) :
    FnOk P w K mg base CX0 5 f fd ["self", "who"] (spCalc K C cashM) := by
  refine F.ok scCash (fun vs H Q E h => ?_) (fun cdv A outer s H vs Q E hr h => ?_)
  · obtain ⟨_, _, _, _, rfl, _⟩ := h
    rfl
  · obtain ⟨b, M, z, j, rfl, hb, ok, ej, q⟩ := h
    refine ⟨_, pss_one (ps_ret (pe_op op_sub (pe_op op_add (pe_meth (pv 0) T.cl GV.m GV.ok hr GV.b .nil pass0 (pa_cons (pv 1) pa_nil)) (pe_meth (pv 0) T.cl FT.m FT.ok hr FT.b .nil pass0 (pa_cons (pv 1) pa_nil))) (pe_meth (pv 0) T.cl FL.m FL.ok hr FL.b .nil pass0 (pa_cons (pv 1) pa_nil)))), ?_⟩
    obtain ⟨g, l, d, eg, el, ed, _⟩ := ok.at_ ej
    obtain ⟨dx, tn, on, wg, ws, wd, e, h1, hn, h2, h3, h4⟩ := hb.ex
    refine ⟨.ref b, rfl, b, dx, _, rfl, e, bf_no (NoF.mk' (by decide +kernel)), .str z, rfl, b, M, z, j, g, rfl, hb, ok.names, ej, eg, fun H1 s1 => ?_⟩
    refine ⟨.ref b, rfl, b, dx, _, rfl, s1 _ _ e, bf_no (NoF.mk' (by decide +kernel)), .str z, rfl, b, M, z, j, rfl, book_same hb s1, ok, ej, fun H2 s2 => ⟨_, _, rfl, rfl, ?_⟩⟩
    have s12 := s1.trans s2
    refine ⟨.ref b, rfl, b, dx, _, rfl, s12 _ _ e, bf_no (NoF.mk' (by decide +kernel)), .str z, rfl, b, M, z, j, d, rfl, book_same hb s12, ok.names, ej, ed, fun H3 s3 => ⟨_, _, rfl, rfl, ?_⟩⟩
    have ec : cashM M j z = g + fallTo M z - d := by
      unfold cashM
      rw [getD_of eg, getD_of ed]
    have qq := q _ (s12.trans s3)
    rw [ec] at qq
    exact qq
/-! ### put, give -/
abbrev sPut : Stmt := inBook 12
abbrev nPut : List Str := ["self", "who", "to", "amount", "place", "name", "stack"]
theorem scPut : FnScope nPut ["self", "who", "to", "amount"] (defScope sPut) := ⟨rfl, rfl, rfl, by decide +kernel, rfl, by decide +kernel, by decide +kernel⟩
def spPut (K : PySem.W.Frag) (C : Addr) : Sp := fun vs H Q _ => ∃ (b : Addr) (M : Bk) (z y : Str) (j k : Nat) (n : Int), vs = [.ref b, .str z, .str y, .int n] ∧ BookAt K C H b M ∧ M.Ok ∧ M.names[j]? = some z ∧ M.names[k]? = some y ∧ 1 ≤ n ∧ manyM M < 60 ∧
  ∀ b' H', Same H H' → H b' = none → BookAt K C H' b' (putM M j y n) → Q (.ref b') H'
theorem map_set {α β : Type} (f : α → β) (l : List α) (j : Nat) (x : α) : (l.map f).set j (f x) = (l.set j x).map f := by
  rw [List.map_set]
theorem ok_put {f f1 f2 f3 f4 C : Addr} {fd fd1 fd2 fd3 fd4 : FuncData} (F : Fun K "put" "Book.put" sPut f fd) (T : ClsF K C) (B : Blt mg) (B3 : Blt3 mg) (gM : ∃ t, mg "MOST" = some (.int 60 t))
    (PL : HasM P w K mg base C 3 "place_of" ["self", "who"] (spPlace K C) f1 fd1) (CA : Has P w K mg base 3 "check_amount" ["amount"] (spCheckA K) f2 fd2) (CH : Has P w K mg base 1 "with_changed" ["row", "place", "thing"] (spChg K) f3 fd3)
    (WT : HasM P w K mg base C 5 "with_these" ["self", "gifts", "stacks", "drops"] (spWith K C) f4 fd4) : FnOk P w K mg base CX0 6 f fd ["self", "who", "to", "amount"] (spPut K C) := by
  obtain ⟨tM, gM⟩ := gM
  refine F.ok scPut (fun vs H Q E h => ?_) (fun cdv A outer s H vs Q E hr h => ?_)
  · obtain ⟨_, _, _, _, _, _, _, rfl, _⟩ := h
    rfl
  · obtain ⟨b, M, z, y, j, k, n, rfl, hb, ok, ej, ek, n1, mm, q⟩ := h
    have hr3 := hr.mono (show 3 ≤ 5 by decide)
    have hr1 := hr.mono (show 1 ≤ 5 by decide)
    refine ⟨_, pss_cons (ps_set (i := 4) scPut.nd rfl (.inl rfl) (pe_meth (pv 0) T.cl PL.m PL.ok hr3 PL.b .nil pass0 (pa_cons (pv 1) pa_nil)))
      (pss_cons (ps_set (i := 5) scPut.nd rfl (.inl rfl) (pe_ix ix_tup (pe_fld (pv 0) rfl) (pe_meth (pv 0) T.cl PL.m PL.ok hr3 PL.b .nil pass0 (pa_cons (pv 2) pa_nil)) (fun _ _ => rfl)))
      (pss_cons (ps_expr (pe_call CA.ok hr3 (by rfl) CA.g CA.kp CA.b .nil pass0 (pa_cons (pv 3) pa_nil)))
      (pss_cons (ps_if (pt_cmpR op_ge (pe_callB (cr_sum rfl) (by rfl) B3.sum (by decide +kernel) (pa_cons
          (pe_lc (own := [("stack", 6)]) (g := gName 6) (tt := tYes) rfl scPut.nd (pi_tup (pe_fld (pv 0) rfl)) (blkOk_by (N := nPut) (sc := defScope sPut) (own := [("stack", 6)]) (by decide +kernel))
            (fun _ _ _ _ _ => pg_name (i := 6) scPut.nd rfl (.inl rfl) (hf := .inr rfl)) (fun _ _ _ _ _ => pts_nil)
            (fun _ _ _ _ _ => pe_callB (call_lenS (K := K) rfl) (by rfl) B.len PySem.boot_len (pa_cons (pv 6) pa_nil))) pa_nil)) (pe_glob (v := .int 60) (by rfl) gM ⟨_, rfl⟩) (nomark _)) pss_never pss_nil)
      (pss_cons (ps_set (i := 6) scPut.nd rfl (.inl rfl) (pe_op op_catD (pe_ix ix_tupD (pe_fld (pv 0) rfl) (pv 4) (fun _ _ => rfl)) (pe_tup (pa_cons (pe_tup (pa_cons (pv 5) (pa_cons (pv 3) pa_nil))) pa_nil))))
      (pss_one (ps_ret (pe_meth (pv 0) T.cl WT.m WT.ok hr WT.b .nil pass0 (pa_cons (pe_fld (pv 0) rfl) (pa_cons (pe_call CH.ok hr1 (by rfl) CH.g CH.kp CH.b .nil pass0 (pa_cons (pe_fld (pv 0) rfl) (pa_cons (pv 4) (pa_cons (pv 6) pa_nil))))
        (pa_cons (pe_fld (pv 0) rfl) pa_nil)))))))))), ?_⟩
    obtain ⟨g, l, d, eg, el, ed, ll⟩ := ok.at_ ej
    obtain ⟨dx, tn, on, wg, ws, wd, e, h1, hn, h2, h3, h4⟩ := hb.ex
    refine ⟨.ref b, rfl, b, dx, _, rfl, e, bf_no (NoF.mk' (by decide +kernel)), .str z, rfl, b, M, z, j, rfl, hb, ok.names, ej, fun H1 s1 => ?_⟩
    refine ⟨.ref b, rfl, b, C, dx, _, _, rfl, s1 _ _ e, T.cl, T.n1, bf_names, .ref b, rfl, b, dx, _, rfl, s1 _ _ e, bf_no (NoF.mk' (by decide +kernel)), .str y, rfl, b, M, y, k, rfl, book_same hb s1, ok.names, ek, fun H2 s2 => ?_⟩
    have s12 := s1.trans s2
    refine ⟨tn, _, _, .str y, rfl, rfl, .inl (.inr ⟨on, s12 _ _ h1⟩), atI_nat (map_get ek), ?_⟩
    refine ⟨.int n, rfl, n, rfl, n1, fun H3 s3 => ?_⟩
    have s13 := s12.trans s3
    obtain ⟨ta, xs, ews, qa, da⟩ := (Dt.same s13 _ h3).tup_inv
    subst ews
    refine ⟨.ref b, rfl, b, C, dx, _, _, rfl, s13 _ _ e, T.cl, T.n3, bf_stacks, ta, rfl, ⟨_, qa⟩, fun D nD => ?_⟩
    refine lc_it (walk_tup (xs := xs)) (fun i H' => Same H3 H' ∧ H' D = some (.lst ((M.stacks.take i).map fun l => .int (l.length : Nat)))) ⟨same_upd nD, upd_same⟩ (fun i H' _ hP => same_seqT hP.1 qa)
      (fun i x H4' H4 hi hP hY => ?_) (fun H4 hP => ?_)
    · obtain ⟨rfl, hx⟩ := hY
      have hs : i < M.stacks.length := by
        have := da.len
        rw [List.length_map] at this
        omega
      obtain ⟨v1, g1, d1⟩ := da.get (n := i) (d := stackD M.stacks[i]) (map_get (List.getElem?_eq_getElem hs))
      rw [hx] at g1
      cases g1
      obtain ⟨sa, sx, rfl, sq, sd⟩ := (Dt.same hP.1 _ d1).tup_inv
      have lsx : sx.length = M.stacks[i].length := by
        rw [sd.len]
        unfold notesD
        rw [List.length_map]
      refine ⟨rfl, .ref sa, rfl, sa, sx, rfl, .inr sq, _, hP.2, ?_, fun c o ec => ?_, ?_⟩
      · rw [List.length_map, List.length_take]
        have := ok.n1
        have := ok.ls
        exact small1000 (by omega)
      · rw [upd_ne (ne_of_none ec nD)]
        exact hP.1 c o ec
      · rw [upd_same, List.take_add_one, List.getElem?_eq_getElem hs, List.map_append, lsx]
        rfl
    · have lx : xs.length = M.stacks.length := by
        rw [da.len, List.length_map]
      refine ⟨D, M.stacks.map fun l => ((l.length : Nat) : Int), rfl, .inl (.inl ?_), _, _, rfl, rfl, _, rfl, ?_⟩
      · rw [hP.2, lx, List.take_length, List.map_map]
        rfl
      have esum : (M.stacks.map fun l => ((l.length : Nat) : Int)).sum = ((manyM M : Nat) : Int) := by
        unfold manyM
        generalize M.stacks = S
        induction S with
        | nil => rfl
        | cons a r ih =>
          rw [List.map_cons, List.sum_cons, ih, List.map_cons, List.sum_cons]
          omega
      rw [esum, show decide ((60 : Int) ≤ ((manyM M : Nat) : Int)) = false from decide_eq_false (by omega)]
      have s14 := s13.trans hP.1
      refine iteF ?_
      refine ⟨.ref b, rfl, b, C, dx, _, _, rfl, s14 _ _ e, T.cl, T.n3, bf_stacks, .int (j : Nat), rfl, _, j, stackD l, Dt.same s14 _ h3, rfl, map_get el, fun v dv => ?_⟩
      refine ⟨.str y, rfl, .int n, rfl, by show 2 ≤ sizeLine; decide, fun t1 nt1 => ⟨by show 1 ≤ sizeLine; decide, fun t2 nt2 => ?_⟩⟩
      have s5 := (same_upd (o := .tup [V.str y, V.int n]) nt1).trans (same_upd (o := .tup [V.ref t1]) nt2)
      refine ⟨notesD l, [noteD (y, n)], Dt.same s5 _ dv, .tup (.inl (.inl upd_same)) (.cons (.tup (.inl (.inl (same_upd nt2 _ _ upd_same))) (.cons (.str y) (.cons (.int n) .nil))) .nil), ?_, fun v6 H6 s6 d6 => ?_⟩
      · unfold notesD
        rw [List.length_map, List.length_singleton]
        omega
      have s16 := s14.trans (s5.trans s6)
      have en : notesD l ++ [noteD (y, n)] = notesD (l ++ [(y, n)]) := by
        unfold notesD
        rw [List.map_append]
        rfl
      rw [en] at d6
      -- self.with_these(self.gifts, with_changed(self.stacks, place, stack), self.drops)
      refine ⟨.ref b, rfl, b, dx, _, rfl, s16 _ _ e, bf_no (NoF.mk' (by decide +kernel)), .ref b, rfl, b, C, dx, _, _, rfl, s16 _ _ e, T.cl, T.n2, bf_gifts, .ref b, rfl, b, C, dx, _, _, rfl, s16 _ _ e, T.cl, T.n3, bf_stacks,
        .int (j : Nat), rfl, v6, rfl, _, _, j, v6, stackD (l ++ [(y, n)]), rfl, Dt.same s16 _ h3, d6, ?_, ?_, fun v7 H7 s7 d7 => ?_⟩
      · rw [List.length_map]
        exact (List.getElem?_eq_some_iff.mp el).1
      · rw [List.length_map, ok.ls]
        have := ok.n1
        omega
      have s17 := s16.trans s7
      rw [map_set] at d7
      refine ⟨.ref b, rfl, b, C, dx, _, _, rfl, s17 _ _ e, T.cl, T.n4, bf_drops, b, M, _, _, _, M.gifts, _, M.drops, rfl, book_same hb s17, ok.names, Dt.same s17 _ h2, d7, Dt.same s17 _ h4, fun b' H8 s8 nb hb' => ?_⟩
      refine q b' H8 (s17.trans s8) (s17.free nb) ?_
      have ep : putM M j y n = ⟨M.names, M.gifts, M.stacks.set j (l ++ [(y, n)]), M.drops⟩ := by
        unfold putM
        rw [getD_of el]
      rw [ep]
      exact hb'
abbrev sGive : Stmt := inBook 13
theorem scGive : FnScope ["self", "who", "amount", "place", "gift"] ["self", "who", "amount"] (defScope sGive) := ⟨rfl, rfl, rfl, by decide +kernel, rfl, by decide +kernel, by decide +kernel⟩
def spGive (K : PySem.W.Frag) (C : Addr) : Sp := fun vs H Q _ => ∃ (b : Addr) (M : Bk) (z : Str) (j : Nat) (n : Int), vs = [.ref b, .str z, .int n] ∧ BookAt K C H b M ∧ M.Ok ∧ M.names[j]? = some z ∧ 1 ≤ n ∧
  ∀ b' H', Same H H' → H b' = none → BookAt K C H' b' (giveM M j n) → Q (.ref b') H'
theorem ok_give {f f1 f2 f3 f4 C : Addr} {fd fd1 fd2 fd3 fd4 : FuncData} (F : Fun K "give" "Book.give" sGive f fd) (T : ClsF K C)
    (PL : HasM P w K mg base C 3 "place_of" ["self", "who"] (spPlace K C) f1 fd1) (CA : Has P w K mg base 3 "check_amount" ["amount"] (spCheckA K) f2 fd2) (CH : Has P w K mg base 1 "with_changed" ["row", "place", "thing"] (spChg K) f3 fd3)
    (WT : HasM P w K mg base C 5 "with_these" ["self", "gifts", "stacks", "drops"] (spWith K C) f4 fd4) : FnOk P w K mg base CX0 6 f fd ["self", "who", "amount"] (spGive K C) := by
  refine F.ok scGive (fun vs H Q E h => ?_) (fun cdv A outer s H vs Q E hr h => ?_)
  · obtain ⟨_, _, _, _, _, rfl, _⟩ := h
    rfl
  · obtain ⟨b, M, z, j, n, rfl, hb, ok, ej, n1, q⟩ := h
    have hr3 := hr.mono (show 3 ≤ 5 by decide)
    have hr1 := hr.mono (show 1 ≤ 5 by decide)
    refine ⟨_, pss_cons (ps_set (i := 3) scGive.nd rfl (.inl rfl) (pe_meth (pv 0) T.cl PL.m PL.ok hr3 PL.b .nil pass0 (pa_cons (pv 1) pa_nil)))
      (pss_cons (ps_expr (pe_call CA.ok hr3 (by rfl) CA.g CA.kp CA.b .nil pass0 (pa_cons (pv 2) pa_nil)))
      (pss_cons (ps_set (i := 4) scGive.nd rfl (.inl rfl) (pe_op op_add (pe_ix ix_tupD (pe_fld (pv 0) rfl) (pv 3) (fun _ _ => rfl)) (pv 2)))
      (pss_one (ps_ret (pe_meth (pv 0) T.cl WT.m WT.ok hr WT.b .nil pass0 (pa_cons (pe_call CH.ok hr1 (by rfl) CH.g CH.kp CH.b .nil pass0 (pa_cons (pe_fld (pv 0) rfl) (pa_cons (pv 3) (pa_cons (pv 4) pa_nil))))
        (pa_cons (pe_fld (pv 0) rfl) (pa_cons (pe_fld (pv 0) rfl) pa_nil)))))))), ?_⟩
    obtain ⟨g, l, d, eg, el, ed, ll⟩ := ok.at_ ej
    obtain ⟨dx, tn, on, wg, ws, wd, e, h1, hn, h2, h3, h4⟩ := hb.ex
    refine ⟨.ref b, rfl, b, dx, _, rfl, e, bf_no (NoF.mk' (by decide +kernel)), .str z, rfl, b, M, z, j, rfl, hb, ok.names, ej, fun H1 s1 => ?_⟩
    refine ⟨.int n, rfl, n, rfl, n1, fun H3 s3 => ?_⟩
    have s13 := s1.trans s3
    refine ⟨.ref b, rfl, b, C, dx, _, _, rfl, s13 _ _ e, T.cl, T.n2, bf_gifts, .int (j : Nat), rfl, _, j, .int g, Dt.same s13 _ h2, rfl, map_get eg, fun v dv => ?_⟩
    cases dv
    refine ⟨.int n, rfl, g, n, rfl, rfl, ?_⟩
    refine ⟨.ref b, rfl, b, dx, _, rfl, s13 _ _ e, bf_no (NoF.mk' (by decide +kernel)), .ref b, rfl, b, C, dx, _, _, rfl, s13 _ _ e, T.cl, T.n2, bf_gifts,
      .int (j : Nat), rfl, .int (g + n), rfl, _, _, j, _, .int (g + n), rfl, Dt.same s13 _ h2, .int _, ?_, ?_, fun v7 H7 s7 d7 => ?_⟩
    · rw [List.length_map]
      exact (List.getElem?_eq_some_iff.mp eg).1
    · rw [List.length_map, ok.lg]
      have := ok.n1
      omega
    have s17 := s13.trans s7
    rw [map_set] at d7
    refine ⟨.ref b, rfl, b, C, dx, _, _, rfl, s17 _ _ e, T.cl, T.n3, bf_stacks, .ref b, rfl, b, C, dx, _, _, rfl, s17 _ _ e, T.cl, T.n4, bf_drops, b, M, _, _, _, _, M.stacks, M.drops, rfl, book_same hb s17, ok.names, d7, Dt.same s17 _ h3, Dt.same s17 _ h4, fun b' H8 s8 nb hb' => ?_⟩
    refine q b' H8 (s17.trans s8) (s17.free nb) ?_
    have ep : giveM M j n = ⟨M.names, M.gifts.set j (g + n), M.stacks, M.drops⟩ := by
      unfold giveM
      rw [getD_of eg]
    rw [ep]
    exact hb'
/-! ### key -/
abbrev sKey : Stmt := inBook 16
theorem scKey : FnScope ["self"] ["self"] (defScope sKey) := ⟨rfl, rfl, rfl, by decide +kernel, rfl, by decide +kernel, by decide +kernel⟩
def keyD (M : Bk) : PyData := .tuple [.tuple (M.names.map .str), .tuple (M.gifts.map .int), .tuple (M.stacks.map stackD), .tuple (M.drops.map .int)]
def spKey (K : PySem.W.Frag) (C : Addr) : Sp := fun vs H Q _ => ∃ b M, vs = [.ref b] ∧ BookAt K C H b M ∧ ∀ v H', Same H H' → Dt K H' v (keyD M) → Q v H'
theorem ok_key {f C : Addr} {fd : FuncData} (F : Fun K "key" "Book.key" sKey f fd) (T : ClsF K C) : FnOk P w K mg base CX0 1 f fd ["self"] (spKey K C) := by
  refine F.ok scKey (fun vs H Q E h => ?_) (fun cdv A outer s H vs Q E hr h => ?_)
  · obtain ⟨_, _, rfl, _⟩ := h
    rfl
  · obtain ⟨b, M, rfl, hb, q⟩ := h
    refine ⟨_, pss_one (ps_ret (pe_tup (pa_cons (pe_fld (pv 0) rfl) (pa_cons (pe_fld (pv 0) rfl) (pa_cons (pe_fld (pv 0) rfl) (pa_cons (pe_fld (pv 0) rfl) pa_nil)))))), ?_⟩
    obtain ⟨dx, tn, on, wg, ws, wd, e, h1, hn, h2, h3, h4⟩ := hb.ex
    refine ⟨.ref b, rfl, b, C, dx, _, _, rfl, e, T.cl, T.n1, bf_names, .ref b, rfl, b, C, dx, _, _, rfl, e, T.cl, T.n2, bf_gifts, .ref b, rfl, b, C, dx, _, _, rfl, e, T.cl, T.n3, bf_stacks, .ref b, rfl, b, C, dx, _, _, rfl, e, T.cl, T.n4, bf_drops, by show 4 ≤ sizeLine; decide, fun t nt => ?_⟩
    have st := same_upd (o := .tup [V.ref tn, wg, ws, wd]) nt
    exact q _ _ st (.tup (.inl (.inl upd_same)) (.cons (.tup (.inl (.inr ⟨on, st _ _ h1⟩)) (DtAll.strs _)) (.cons (Dt.same st _ h2) (.cons (Dt.same st _ h3) (.cons (Dt.same st _ h4) .nil)))))
end
end Rc

namespace Rc
open PySem PySem.Spec PyProof.Rows L2 RZ
theorem out_it {J : It} {n : Nat} {G : Hp → Prop} {Y : Nat → Hp → V → Hp → Prop} (w : Walk J n G Y) {Body : V → Hp → (Hp → Prop) → Prop} {H0 : Hp} {Qd : Hp → Prop} (Pv : Nat → Hp → Prop) (h0 : Pv 0 H0) (hG : ∀ i H, i ≤ n → Pv i H → G H)
    (hs : ∀ i x H H', i < n → Pv i H → Y i H x H' → Body x H' (Pv (i + 1))) (hd : ∀ H, Pv n H → Qd H) :
    ∃ W : Nat → Nat → Hp → Prop, (∃ m, W 0 m H0) ∧ ∀ i m H, W i m H → (J.stop i H ∧ Qd H) ∨ (J.go i H ∧ ∃ Nx : Hp → Prop, (∀ H', Nx H' → ∃ m', m' < m ∧ W (i + 1) m' H') ∧ ∀ x H', J.yld i H x H' → Body x H' Nx) := by
  refine ⟨fun i m H => m = n - i ∧ i ≤ n ∧ Pv i H, ⟨n, by simp, Nat.zero_le _, h0⟩, ?_⟩
  rintro i m H ⟨rfl, hi, p⟩
  have g := hG i H hi p
  by_cases hlt : i < n
  · exact .inr ⟨w.goes i H hlt g, Pv (i + 1), fun H' p' => ⟨n - (i + 1), by omega, rfl, hlt, p'⟩, fun x H' y => hs i x H H' hlt p (w.yields i H x H' hlt g y)⟩
  · obtain rfl : i = n := by omega
    exact .inl ⟨w.stops H g, hd H p⟩
def leftM (M : Bk) (i : Nat) : List (Str × Int) := ((M.stacks.zip M.drops).take i).flatMap fun p => leftN p.1 p.2
theorem leftM_succ {M : Bk} {i : Nat} {l : List (Str × Int)} {d : Int} (h1 : M.stacks[i]? = some l) (h2 : M.drops[i]? = some d) : leftM M (i + 1) = leftM M i ++ leftN l d := by
  unfold leftM
  rw [List.take_add_one, List.getElem?_zip_eq_some (z := (l, d)) |>.mpr ⟨h1, h2⟩, List.flatMap_append]
  simp
theorem leftM_len (M : Bk) (ok : M.Ok) : ∀ i, (leftM M i).length ≤ ((M.stacks.take i).map List.length).sum
  | 0 => by simp [leftM]
  | i + 1 => by
    have ih := leftM_len M ok i
    by_cases h : i < M.stacks.length
    · have h2 : i < M.drops.length := by
        rw [ok.ld, ← ok.ls]
        exact h
      rw [leftM_succ (List.getElem?_eq_getElem h) (List.getElem?_eq_getElem h2), List.take_add_one, List.getElem?_eq_getElem h, List.map_append, List.sum_append, List.length_append]
      have := leftN_len M.stacks[i] M.drops[i]
      simp only [Option.toList_some, List.map_cons, List.map_nil, List.sum_cons, List.sum_nil]
      omega
    · have e1 : (M.stacks.zip M.drops).take (i + 1) = (M.stacks.zip M.drops).take i := by
        rw [List.take_of_length_le (by rw [List.length_zip]; omega), List.take_of_length_le (by rw [List.length_zip]; omega)]
      have e2 : M.stacks.take (i + 1) = M.stacks.take i := by
        rw [List.take_of_length_le (by omega), List.take_of_length_le (by omega)]
      unfold leftM at ih ⊢
      rw [e1, e2]
      exact ih
theorem sum_take_le : ∀ (l : List (List (Str × Int))) (i : Nat), ((l.take i).map List.length).sum ≤ (l.map List.length).sum
  | [], _ => by simp
  | _ :: _, 0 => by simp
  | a :: r, i + 1 => by
    have := sum_take_le r i
    simp only [List.take_succ_cons, List.map_cons, List.sum_cons]
    omega
section
variable {P : Program} {w : World} {K : PySem.W.Frag} {mg : Str → Option Value} {base : Heap}
abbrev sLefts : Stmt := inBook 17
abbrev nLefts : List Str := ["self", "who", "note"]
theorem scLefts : FnScope nLefts ["self"] (defScope sLefts) := ⟨rfl, rfl, rfl, by decide +kernel, rfl, by decide +kernel, by decide +kernel⟩
def spLefts (K : PySem.W.Frag) (C : Addr) : Sp := fun vs H Q _ => ∃ b M, vs = [.ref b] ∧ BookAt K C H b M ∧ M.Ok ∧ ∀ r xs H', Same H H' → H r = none → H' r = some (.lst xs) → xs.length = (leftM M M.names.length).length → Q (.ref r) H'
theorem ok_lefts {f fp C : Addr} {fd fdp : FuncData} (F : Fun K "notes_left" "Book.notes_left" sLefts f fd) (T : ClsF K C) (PI' : HasM P w K mg base C 5 "pile" ["self", "who"] (spRow K C leftN) fp fdp) :
    FnOk P w K mg base CX0 6 f fd ["self"] (spLefts K C) := by
  refine F.ok scLefts (fun vs H Q E h => ?_) (fun cdv A outer s H vs Q E hr h => ?_)
  · obtain ⟨_, _, rfl, _⟩ := h
    rfl
  · obtain ⟨b, M, rfl, hb, ok, q⟩ := h
    refine ⟨_, pss_one (ps_ret (pe_lc2 (own := [("who", 1), ("note", 2)]) (vs1 := [2]) (g := gName 1) (g1 := gName 2) (tt := tYes) (tt1 := tYes) (te := tVar 2) (wi1 := iList K (tMeth C "pile" (spRow K C leftN) [] E0 (tVar 0) (tCons (tVar 1) tNil))) rfl scLefts.nd (pi_tup (pe_fld (pv 0) rfl))
      (blkOk_by (N := nLefts) (sc := defScope sLefts) (own := [("who", 1), ("note", 2)]) (by decide +kernel)) (by decide) (fun _ _ _ _ _ => pg_name (i := 1) scLefts.nd rfl (.inl rfl) (hf := .inr rfl)) (fun _ _ _ _ _ => pts_nil)
      (fun _ _ _ _ _ => pi_list (pe_meth (pv 0) T.cl PI'.m PI'.ok hr PI'.b .nil pass0 (pa_cons (pv 1) pa_nil))) (fun _ _ _ _ _ => pg_name (i := 2) scLefts.nd rfl (.inl rfl) (hf := .inr rfl)) (fun _ _ _ _ _ => pts_nil) (fun _ _ _ _ _ => pv 2))), ?_⟩
    obtain ⟨dx, tn, on, wg, ws, wd, e, h1, hn, h2, h3, h4⟩ := hb.ex
    have qn : SqT K H tn (M.names.map V.str) := .inl (.inr ⟨on, h1⟩)
    refine ⟨.ref b, rfl, b, C, dx, _, _, rfl, e, T.cl, T.n1, bf_names, tn, rfl, ⟨_, qn⟩, fun D nD => ?_⟩
    have bound : ∀ i, (leftM M i).length ≤ 60 := fun i => Nat.le_trans (leftM_len M ok i) (Nat.le_trans (sum_take_le _ _) ok.many)
    refine out_it (walk_tup (K := K) (a := tn) (xs := M.names.map V.str)) (fun i H' => Same H H' ∧ ∃ acc, H' D = some (.lst acc) ∧ acc.length = (leftM M i).length) ⟨same_upd nD, [], upd_same, rfl⟩ (fun i H' _ hP => same_seqT hP.1 qn)
      (fun i x H1' H1 hi hP hY => ?_) (fun H1 hP => ?_)
    · obtain ⟨rfl, hx⟩ := hY
      rw [List.length_map] at hi
      obtain ⟨s1, acc, hD, ha⟩ := hP
      have ex : x = .str M.names[i] := by
        rw [List.getElem?_map, List.getElem?_eq_getElem hi] at hx
        exact (Option.some.inj hx).symm
      subst ex
      obtain ⟨g, l, d, eg, el, ed, ll⟩ := ok.at_ (List.getElem?_eq_getElem hi)
      refine ⟨rfl, ?_⟩
      refine ⟨.ref b, rfl, b, dx, _, rfl, s1 _ _ e, bf_no (NoF.mk' (by decide +kernel)), _, rfl, b, M, _, i, l, d, rfl, book_same hb s1, ok.names, List.getElem?_eq_getElem hi, el, ed, by omega, fun r xs H2 s2 nr hr2 dr => ?_⟩
      have lx : xs.length = (leftN l d).length := by
        rw [dr.len]
        unfold notesD
        rw [List.length_map]
      have rD : r ≠ D := (ne_of_none hD nr).symm
      refine ⟨r, rfl, ⟨_, .inl (.inl hr2)⟩, ?_⟩
      have es := leftM_succ el ed
      have b1 := bound (i + 1)
      rw [es, List.length_append] at b1
      refine out_it (walk_list (K := K) (a := r) (xs := xs)) (fun j H' => Same H H' ∧ H' r = some (.lst xs) ∧ ∃ acc', H' D = some (.lst acc') ∧ acc'.length = (leftM M i).length + j) ⟨s1.trans s2, hr2, acc, s2 _ _ hD, by omega⟩ (fun j H' _ hP => .inl (.inl hP.2.1))
        (fun j y H3' H3 hj hP hY => ?_) (fun H3 hP => ?_)
      · obtain ⟨rfl, hy⟩ := hY
        obtain ⟨s3, hr3, acc', hD3, ha3⟩ := hP
        refine ⟨rfl, y, rfl, acc', hD3, small1000 (by omega), fun c o ec => ?_, ?_, acc' ++ [y], upd_same, ?_⟩
        · rw [upd_ne (ne_of_none ec nD)]
          exact s3 c o ec
        · rw [upd_ne rD]
          exact hr3
        · rw [List.length_append, ha3]
          rfl
      · obtain ⟨s3, hr3, acc', hD3, ha3⟩ := hP
        exact ⟨s3, acc', hD3, by rw [es, List.length_append, ha3, lx]⟩
    · obtain ⟨s1, acc, hD, ha⟩ := hP
      rw [List.length_map] at ha
      exact q D acc H1 s1 nD hD ha
/-! ### len -/
abbrev sLenB : Stmt := inBook 19
theorem scLenB : FnScope ["self"] ["self"] (defScope sLenB) := ⟨rfl, rfl, rfl, by decide +kernel, rfl, by decide +kernel, by decide +kernel⟩
def lenM (M : Bk) : Nat := (leftM M M.names.length).length
def spLenB (K : PySem.W.Frag) (C : Addr) : Sp := fun vs H Q _ => ∃ b M, vs = [.ref b] ∧ BookAt K C H b M ∧ M.Ok ∧ ∀ H', Same H H' → Q (.int (lenM M : Nat)) H'
theorem ok_lenB {f fp C : Addr} {fd fdp : FuncData} (F : Fun K "__len__" "Book.__len__" sLenB f fd) (T : ClsF K C) (B : Blt mg) (LF : HasM P w K mg base C 6 "notes_left" ["self"] (spLefts K C) fp fdp) :
    FnOk P w K mg base CX0 7 f fd ["self"] (spLenB K C) := by
  refine F.ok scLenB (fun vs H Q E h => ?_) (fun cdv A outer s H vs Q E hr h => ?_)
  · obtain ⟨_, _, rfl, _⟩ := h
    rfl
  · obtain ⟨b, M, rfl, hb, ok, q⟩ := h
    refine ⟨_, pss_one (ps_ret (pe_callB call_len_seq (by rfl) B.len PySem.boot_len (pa_cons (pe_meth0 (pv 0) T.cl LF.m LF.ok hr LF.b .nil pass0) pa_nil))), ?_⟩
    obtain ⟨dx, tn, on, wg, ws, wd, e, h1, hn, h2, h3, h4⟩ := hb.ex
    refine ⟨.ref b, rfl, b, dx, _, rfl, e, bf_no (NoF.mk' (by decide +kernel)), b, M, rfl, hb, ok, fun r xs H' s' nr hr' hl => ?_⟩
    refine ⟨r, xs, rfl, .inl (.inl (.inl hr')), ?_⟩
    rw [hl]
    exact q H' s'
theorem lenM_le {M : Bk} (ok : M.Ok) : lenM M ≤ 60 := Nat.le_trans (leftM_len M ok _) (Nat.le_trans (sum_take_le _ _) ok.many)
/-- len(book) -/
def rLenB (K : PySem.W.Frag) (C : Addr) : List V → Hp → VK → Prop := fun xs H Q => ∃ b M, xs = [.ref b] ∧ BookAt K C H b M ∧ M.Ok ∧ ∀ H', Same H H' → Q (.int (lenM M : Nat)) H'
theorem call_lenB {X : Cx} {C f : Addr} {fd : FuncData} (G : FnOk X.prog X.w X.K X.mg X.base CX0 7 f fd ["self"] (spLenB X.K C)) (bd : Binds X.K fd ["self"] []) (hm : Meth X.K C "__len__" f) (hr : Room 8 X.A) : CallR X (.builtin "len") (rLenB X.K C) := by
  intro pins s σ H xs us Q I r h
  obtain ⟨b, M, rfl, hb, ok, q⟩ := h
  obtain ⟨u, rfl, ru⟩ := vals1 r
  cases ru
  obtain ⟨dx, tn, on, wg, ws, wd, e, h1, hn, h2, h3, h4⟩ := hb.ex
  obtain ⟨m, Fm⟩ := I.fr
  obtain ⟨mA, O, _⟩ := ins_get I.hok e
  obtain ⟨od, J, _⟩ := O.look
  refine PySem.W.len_K Fm I.ok.mod.kin J hm.at_ hm.fn ?_
  have e0 := I.env0
  refine wpAny_call (codeAny_mono (G.run X.A.in1 X.stack s H ⟨[.ref b], []⟩ [.ref b] [.ref b] (fun v H' => v = .int (lenM M : Nat) ∧ Q (.int (lenM M : Nat)) H') E0 hr.in1 e0.in1 (bd s [.ref b] I.kIn rfl) (.cons rfl .nil) ⟨b, M, rfl, hb, ok, fun H' s' => ⟨rfl, q H' s'⟩⟩) fun r s' hq => ?_)
  match r, hq with
  | .error e, hq => exact hq.elim
  | .ok .next, hq => exact hq.elim
  | .ok .brk, hq => exact hq.elim
  | .ok .cont, hq => exact hq.elim
  | .ok (.ret u), hq =>
    obtain ⟨v, H', I', rv, ev, q'⟩ := I.after hq
    subst ev
    obtain ⟨t, rfl⟩ := rv
    have := lenM_le ok
    exact ⟨⟨by omega, by omega⟩, ⟨.int _, H', I'.tok _, ⟨_, rfl⟩, q'⟩⟩
end
end Rc

namespace Rc
/-! ### own exceptions by super().__init__(text); self.f = f; .. -/
namespace EX
open PySem PySem.W PySem.Calls PyProof.Rows PySem.HandSPX
open L2 (defScope defBody defArgs)
abbrev supS (t : Str) (p0 p1 p2 p3 p4 p5 : Pos) : Stmt := .Expr (.Call (.Attribute (.Call (.Name "super" p0) [] [] p1) "__init__" p2) [.Constant (.str t) 0 p3] [] p4) p5
abbrev fldS (f : Str) (q1 q2 q3 q4 : Pos) : Stmt := .Assign [.Attribute (.Name "self" q1) f q2] (.Name f q3) q4
/-- an instance, its dict or none -/
abbrev exI (C t : Addr) (d : Option Addr) : Obj := { cls := .ref C, dict := d, data := .fields #[.ref t, .none, .none, .none, .bool false, .none] }
section
variable {prog : Program} {w : World} {A : Around} {E : Value → Shared → Prop} {K : Frag} {x C : Addr} {f : Str} {v : Value} {cd : ClassData} {B newId initId : String} {bmB : List Value} {s : Shared}
theorem st_new {t0 : Addr} {Q : Unit → Shared → Prop} (SF : StoreFacts B bmB "object.__setattr__" "object") (X : K.In s.heap) (hx : s.heap.get? x = some (exI C t0 none))
    (hcd : clsIn K C = some cd) (hh : cd.hasDict = true) (ov : excOver K C bmB = true) (sa : findIn K (.ref C) "__setattr__" = some (some (.builtin "object.__setattr__"))) (nf : findIn K (.ref C) f = some none)
    (hq : ∀ h' tk dx, (∀ b o, b ≠ x → s.heap.get? b = some o → h'.get? b = some o) → s.heap.objs.size ≤ dx → dx ≠ x → s.heap.objs.size ≤ h'.objs.size →
      h'.get? x = some (exI C t0 (some dx)) → h'.Ns1 dx (fun y => if y = f then some v else none) → Q () { s with heap := h', toks := tk }) :
    wpAny (model prog w) A (setAttr (.ref x) f v) Q E s := by
  obtain ⟨hp, g, d, t, os⟩ := s
  have I : InstAt hp x (exI C t0 none) C none := ⟨hx, rfl, rfl, trivial⟩
  have xs : x ≠ hp.objs.size := Nat.ne_of_lt (Heap.lt_size hx)
  have L : Looks (model prog w) hp (classData C) cd := looks_clsIn X hcd
  have tk : takerIn K C f = some none := by unfold takerIn; rw [nf]; rfl
  refine set_plain X I sa (osa_openX (s := ⟨hp, g, d, t + 1, os⟩) SF X I ov tk fun b => ?_)
  obtain ⟨c1, c2, c3, c4, c5, c6, c7, c8, c9, c10, c11⟩ := cd
  dsimp only at hh
  subst hh
  dsimp only
  unfold Builtin.ObjectAttr.storeInOwnDict Builtin.ObjectAttr.ownDictForStores
  repeat (first | with_reducible refine store_in_new ?_ ?_ | with_reducible refine wpAny_loadPart_at hx ?_ | with_reducible refine L.at ?_ | wp_step)
  · exact ⟨_, #[], _, (Heap.get?_update_ne _ _ _ _ xs.symm).trans (Heap.get?_push_at rfl rfl), rfl, fun e he => absurd he (by simp), fun _ => rfl⟩
  · intro h' tk' hn' hs
    have hx1 : (hp.push { cls := .type "dict", data := .dict #[] }).get? x = some (exI C t0 none) := Heap.get?_push_of_some _ hx
    refine hq h' tk' hp.objs.size (fun b o hb ho => ?_) (Nat.le_refl _) xs.symm ?_ ?_ hn'
    · have z1 := Heap.get?_push_of_some { cls := .type "dict", data := .dict #[] } ho
      exact (hs.2 b (Nat.ne_of_lt (Heap.lt_size ho))).trans ((Heap.get?_update_ne _ _ _ _ hb).trans z1)
    · have z := (hn'.lt : hp.objs.size < h'.objs.size)
      exact Nat.le_of_lt z
    · exact (hs.2 x xs).trans (Heap.get?_update_self _ hx1 rfl)
theorem st_old {t0 dx : Addr} {m0 : Str → Option Value} {nl : List Str} {Q : Unit → Shared → Prop} (SF : StoreFacts B bmB "object.__setattr__" "object") (X : K.In s.heap) (hx : s.heap.get? x = some (exI C t0 (some dx)))
    (hns : s.heap.Ns1 dx m0) (hw : Within m0 nl) (hz : nl.length ≤ 1000)
    (hcd : clsIn K C = some cd) (hh : cd.hasDict = true) (ov : excOver K C bmB = true) (sa : findIn K (.ref C) "__setattr__" = some (some (.builtin "object.__setattr__"))) (nf : findIn K (.ref C) f = some none)
    (hq : ∀ h' tk, (∀ b o, b ≠ dx → s.heap.get? b = some o → h'.get? b = some o) → s.heap.objs.size ≤ h'.objs.size → h'.Ns1 dx (fun y => if y = f then some v else m0 y) → Q () { s with heap := h', toks := tk }) :
    wpAny (model prog w) A (setAttr (.ref x) f v) Q E s := by
  obtain ⟨hp, g, d, t, os⟩ := s
  obtain ⟨oD, _, _, hoD, _, _⟩ := hns.count hw
  have I : InstAt hp x (exI C t0 (some dx)) C (some oD) := ⟨hx, rfl, rfl, hoD⟩
  have L : Looks (model prog w) hp (classData C) cd := looks_clsIn X hcd
  have tk : takerIn K C f = some none := by unfold takerIn; rw [nf]; rfl
  refine set_plain X I sa (osa_openX (s := ⟨hp, g, d, t + 1, os⟩) SF X I ov tk fun b => ?_)
  obtain ⟨c1, c2, c3, c4, c5, c6, c7, c8, c9, c10, c11⟩ := cd
  dsimp only at hh
  subst hh
  dsimp only
  unfold Builtin.ObjectAttr.storeInOwnDict Builtin.ObjectAttr.ownDictForStores
  repeat (first | with_reducible refine ESX.store_in_old hns hw hz ?_ | with_reducible refine wpAny_loadPart_at hx ?_ | with_reducible refine L.at ?_ | wp_step)
  intro h' tk' hn' hs
  exact hq h' tk' (fun b o hb ho => (hs.2 b hb).trans ho) (Nat.le_of_eq hs.1.symm) hn'
/-- initId bound to x, called -/
theorem run_bound {u t0 : Addr} {rest : List Value} {Q : Value → Shared → Prop} (FB : ExcBaseFacts B newId initId bmB) (X : K.In s.heap) (q : excInitIn K C bmB newId = true)
    (hx : s.heap.get? x = some (exI C t0 none)) (hu : s.heap.get? u = some (kxs_mw initId x)) (hz : rest.length ≤ sizeLine)
    (hq : ∀ h' t1, (∀ b o, b ≠ x → s.heap.get? b = some o → h'.get? b = some o) → s.heap.objs.size ≤ h'.objs.size → h'.get? x = some (exI C t1 none) → Q .none { s with heap := h' }) :
    wpAny (model prog w) A (call (.ref u) rest) Q E s := by
  obtain ⟨nm, N', qn, bs, bm, hdct, sn, sub, ab, col, dd, k0, k1, k2, k3, k5, hC, hT⟩ := excInit_of X q
  obtain ⟨hh, g, d, tk, os⟩ := s
  refine wpAny_call (codeAny_of_tree ?_)
  show wpAny _ A.in1 (callAny (.ref u) ⟨rest, []⟩) _ _ _
  simp only [callAny]
  refine wpAny_bind (wpAny_load hu ?_)
  simp only [kxs_mw, show (Value.type "method-wrapper" == Value.type "method" || Value.type "method-wrapper" == Value.type "builtin_function_or_method" || Value.type "method-wrapper" == Value.type "method-wrapper") = true from by decide, if_true]
  refine KFB.if_so (by decide) ?_
  refine wpAny_bind (check_bound_init FB.toExcCallFacts hC hx rfl (wpAny_bind (wpAny_pure (wpAny_pure ?_))))
  refine ⟨plainId_quiet FB.init.plain _, codeAny_builtin FB.initEntry ?_⟩
  refine exc_init_tree (cls := .ref C) (t0 := t0) (dv := none) (c2 := .none) (c3 := .none) (b4 := .bool false) hx hz fun h' k e et => ?_
  exact hq h' _ k (Nat.le_of_lt (Heap.lt_size et)) e
/-- .. all in one row -/
def OneRow (tx : Str) (p0 p1 p2 p3 p4 : Pos) : Prop := ∃ pl : Sem Bool, ∀ env : Env, eval (.Call (.Attribute (.Call (.Name "super" p0) [] [] p1) "__init__" p2) [.Constant (.str tx) 0 p3] [] p4) env = (do
  let ov ← attributeBase (.Call (.Name "super" p0) [] [] p1) "__init__" env (eval (.Call (.Name "super" p0) [] [] p1) env)
  standAt p2.atName
  let (f, first) ← holding [ov] (getMethod ov "__init__" pl)
  callWith p4 f first (backTo p4 (starEach [.Constant (.str tx) 0 p3] env)) [])
/-- super().__init__(text), in the def's own frame -/
theorem ex_super {t0 L fI cda cc : Addr} {scope : Scope} {qual : Str} {body : List Stmt} {tx : Str} {p0 p1 p2 p3 p4 p5 : Pos} {m mg mb : Str → Option Value} {fd : FuncData} {oc ccl cl : Value} {od cdd cld : Option Addr} {osl ccs csl : Array (Option Value)} {ar : Arg} {vs : Array Value} {file : Str} {tf : Tok} {Q : Flow → Shared → Prop}
    (row : OneRow tx p0 p1 p2 p3 p4) (FB : ExcBaseFacts B newId initId bmB) (KF : KxsFacts B initId) (X : K.In s.heap) (q : excInitIn K C bmB newId = true) (hcd : clsIn K C = some cd)
    (hg : s.heap.Ns mainGlobals mg) (hm : mg "super" = none) (hb : s.heap.Ns builtinsNs mb) (hbs : mb "super" = some (.type "super"))
    (hL : s.heap.Ns L m) (hv : m "self" = some (.ref x)) (hx : s.heap.get? x = some (exI C t0 none))
    (lf : K.lookup fI = some ⟨oc, od, .func fd, osl⟩) (hp : (fd.params.posonlyargs ++ fd.params.args).head? = some ar) (har : ar.arg = "self")
    (lc : K.lookup cda = some ⟨ccl, cdd, .fields vs, ccs⟩) (hvs : vs[2]? = some (.str file tf)) (hfile : ((prog.main.file : Str) == file) = true) (htop : (prog.main.scope.names.lookup ("super" : Str)).isSome = false)
    (lcell : K.lookup cc = some ⟨cl, cld, .cell (some (.ref C)), csl⟩) (hsub : mroIn K C (.ref C) = some true) (opq : nsIn K cStatics "thirdparty.any" = some none)
    (hsup : alongIn K "__init__" ((cd.mro.dropWhile (· != .ref C)).drop 1) = some (some (.builtin initId))) (hB : subIn K (.ref C) (.type B) = some true)
    (hk : scope.kind = .function) (hks : scope.names.lookup ("super" : Str) = some .globalImplicit) (hkc : scope.names.lookup ("__class__" : Str) = some .free) (hka : scope.names.lookup ("self" : Str) = some .local)
    (hq : ∀ h' tk t1, (∀ b o, b ≠ x → s.heap.get? b = some o → h'.get? b = some o) → s.heap.objs.size ≤ h'.objs.size → h'.get? x = some (exI C t1 none) → Q .next { s with heap := h', toks := tk }) :
    _root_.PySem.wpAt (model prog w) A (.func body (ksEnv qual scope L fI (.ref cda) cc)) (exec (supS tx p0 p1 p2 p3 p4 p5) (ksEnv qual scope L fI (.ref cda) cc)) Q E s := by
  have I : InstAt s.heap x (exI C t0 none) C none := ⟨hx, rfl, rfl, trivial⟩
  have xC : x ≠ C := ks_ne X I hcd
  obtain ⟨hh, g, d, t, os⟩ := s
  obtain ⟨oD, hD1, hD2⟩ : ∃ oD, hh.get? C = some oD ∧ oD.data = .cls cd := by
    unfold clsIn at hcd
    split at hcd
    · rename_i c d cd' sl ho
      cases hcd
      exact ⟨_, X _ _ ho, rfl⟩
    · cases hcd
  obtain ⟨pl, row⟩ := row
  obtain ⟨kd, nms, g1, g2, mo⟩ := scope
  dsimp only at hk hks hkc hka
  subst hk
  refine ks_wpAt_Expr_any (ks_wpAt_MethodCall (pl := pl) ?_ (row _))
  refine ks_wpAt_super_base (env := ksEnv qual ⟨.function, nms, g1, g2, mo⟩ L fI (.ref cda) cc) hks hkc (by decide) rfl (X _ _ lf) rfl hp rfl (X _ _ lc) rfl hvs hfile htop ?_
  refine ks_loadName_global rfl hks (loadGlobal_builtin (env := ksEnv qual ⟨.function, nms, g1, g2, mo⟩ L fI (.ref cda) cc) hg hm hb hbs ⟨rfl, ?_⟩)
  refine wpAny_loadName_free rfl hkc rfl ⟨_, X _ _ lcell, rfl⟩ ?_
  rw [har]
  refine wpAny_loadName_local rfl hka hL hv (ks_wpAny_isType_cls hD1 hD2 ⟨rfl, ?_⟩)
  refine ks_wpAny_call_super hD1 hD2 hx rfl (fun c e => by cases e) (looks_mroIn X hsub) (fun h1 e1 k1 => ?_)
  have X1 : K.In h1 := X.keeps k1
  have I1 : InstAt h1 x (exI C t0 none) C none := ⟨k1 _ _ hx, rfl, rfl, trivial⟩
  refine kxs_getMethod KF e1 (looks_opaque X1 opq) (l₀ := cd.mro) ?_ rfl X1 hsup (I1.type.andThen (looks_subIn X1 hB)) xC (by decide) ?_
  · exact fun A Q E s k q => wpAny_bind ((looks_clsIn X1 hcd) A _ E s k (wpAny_pure q))
  have k2 : ∀ b o, hh.get? b = some o → (h1.push (kxs_mw initId x)).get? b = some o := fun b o e => Heap.get?_push_of_some _ (k1 b o e)
  have hu : (h1.push (kxs_mw initId x)).get? h1.objs.size = some (kxs_mw initId x) := Heap.get?_push_at rfl rfl
  refine kxs_callWith (i := initId) (x := x) rfl ?_
  refine evalArgs_plain (spliced_cons (Calls.Constant_str (k := 0) (pos := p3) (spliced_nil ⟨hu, ?_⟩)))
  refine run_bound FB (X.keeps k2) q (k2 _ _ hx) hu (by rw [sizeLine_eq]; exact (by decide : 1 ≤ 16777216)) fun h' t1 k sz e => ?_
  have sz1 : hh.objs.size ≤ h1.objs.size := Nat.le_of_lt (Heap.lt_size e1)
  have sz2 : h1.objs.size ≤ (h1.push (kxs_mw initId x)).objs.size := Nat.le_of_lt (Heap.lt_size hu)
  exact hq h' _ t1 (fun b o hb ho => k b o hb (k2 b o ho)) (Nat.le_trans sz1 (Nat.le_trans sz2 sz)) e
inductive Flds : List Stmt → List Str → Prop
  | nil : Flds [] []
  | cons {f : Str} {q1 q2 q3 q4 : Pos} {r : List Stmt} {fs : List Str} : Flds r fs → Flds (fldS f q1 q2 q3 q4 :: r) (f :: fs)
/-- the exception at x, with these fields so far -/
def Held (h : Heap) (lo : Nat) (x C : Addr) : List (Str × Value) → Prop
  | [] => ∃ t1, h.get? x = some (exI C t1 none)
  | m => ∃ t1 dx, lo ≤ dx ∧ dx ≠ x ∧ h.get? x = some (exI C t1 (some dx)) ∧ h.Ns1 dx (fun y => m.lookup y)
theorem look_put (f y : Str) (v : Value) (m : List (Str × Value)) : ((f, v) :: m).lookup y = if y = f then some v else m.lookup y := by
  by_cases h : y = f
  · subst h
    simp [List.lookup]
  · have e : (y == f) = false := by simpa using h
    rw [if_neg h]
    simp [List.lookup, e]
theorem look_in : ∀ (m : List (Str × Value)), Within (fun y => m.lookup y) (m.map (·.1))
  | [], y, h => absurd rfl h
  | (f, v) :: m, y, h => by
    have h' : ((f, v) :: m).lookup y ≠ none := h
    rw [look_put] at h'
    by_cases e : y = f
    · rw [e]
      exact List.mem_cons_self
    · rw [if_neg e] at h'
      exact List.mem_cons_of_mem _ (look_in m y h')
theorem run_flds {L fI : Addr} {cdv : Value} {cc : Addr} {h0 : Heap} {nms : List (Str × NameKind)} {g1 g2 : Bool} {mo : List (Str × Const)} {qual : Str} {m : Str → Option Value} {Q : Flow → Shared → Prop}
    (SF : StoreFacts B bmB "object.__setattr__" "object") (X : K.In h0) (hnx : K.lookup x = none) (hL : h0.Ns L m) (hLx : L ≠ x) (hself : m "self" = some (.ref x)) (hka : nms.lookup ("self" : Str) = some .local)
    (hcd : clsIn K C = some cd) (hh : cd.hasDict = true) (ov : excOver K C bmB = true) (sa : findIn K (.ref C) "__setattr__" = some (some (.builtin "object.__setattr__"))) :
    ∀ {rest : List Stmt} {fs : List Str}, Flds rest fs → ∀ (acc : List (Str × Value)) (us : List Value) (s : Shared), (∀ b o, b ≠ x → h0.get? b = some o → s.heap.get? b = some o) → h0.objs.size ≤ s.heap.objs.size → Held s.heap h0.objs.size x C acc →
      (∀ p ∈ fs.zip us, m p.1 = some p.2) → us.length = fs.length → acc.length + fs.length ≤ 900 → (∀ f ∈ fs, nms.lookup f = some .local ∧ findIn K (.ref C) f = some none ∧ (f == ("__debug__" : Str)) = false) →
      (∀ h' tk, (∀ b o, b ≠ x → h0.get? b = some o → h'.get? b = some o) → h0.objs.size ≤ h'.objs.size → Held h' h0.objs.size x C ((fs.zip us).reverse ++ acc) → Q .next { s with heap := h', toks := tk }) →
      wpAny (model prog w) A (execs rest (ksEnv qual ⟨.function, nms, g1, g2, mo⟩ L fI cdv cc)) Q E s := by
  intro rest fs hF
  induction hF with
  | nil =>
    intro acc us s k sz hd _ hl _ _ hq
    obtain rfl : us = [] := List.eq_nil_of_length_eq_zero hl
    exact wpAny_execs_nil (hq s.heap s.toks k sz hd)
  | @cons f q1 q2 q3 q4 r fs hr ih =>
    intro acc us s k sz hd hv hl hz hf hq
    obtain ⟨u, us, rfl⟩ : ∃ u us', us = u :: us' := by
      cases us with
      | nil => simp at hl
      | cons u us => exact ⟨u, us, rfl⟩
    obtain ⟨f1, f2, f3⟩ := hf f List.mem_cons_self
    have eu : m f = some u := hv (f, u) List.mem_cons_self
    have XK : K.In s.heap := fun a o e => k a o (fun z => by rw [z, hnx] at e; cases e) (X a o e)
    have nsL : s.heap.Ns L m := by
      obtain ⟨oL, es, ep, eL, r⟩ := hL
      exact ⟨oL, es, ep, k _ _ hLx eL, r⟩
    refine wpAny_execs_cons (plainObj_wpAny_Assign_Attribute (wpAny_Name (wpAny_loadName_local rfl f1 nsL eu (wpAny_Name (wpAny_loadName_local rfl hka nsL hself ?_) (by decide))) f3))
    have fin : ∀ h' tk, (∀ b o, b ≠ x → h0.get? b = some o → h'.get? b = some o) → h0.objs.size ≤ h'.objs.size → Held h' h0.objs.size x C ((f, u) :: acc) →
        wpAny (model prog w) A (execs r (ksEnv qual ⟨.function, nms, g1, g2, mo⟩ L fI cdv cc)) Q E { s with heap := h', toks := tk } := fun h' tk k' sz' hd' => by
      refine ih ((f, u) :: acc) us { s with heap := h', toks := tk } k' sz' hd' (fun p hp => hv p (List.mem_cons_of_mem _ hp)) (by simpa using hl) (by simp at hz ⊢; omega) (fun g hg => hf g (List.mem_cons_of_mem _ hg)) fun h2 tk2 k2 sz2 hd2 => ?_
      refine hq h2 tk2 k2 sz2 ?_
      show Held h2 _ x C (((f, u) :: fs.zip us).reverse ++ acc)
      rw [List.reverse_cons, List.append_assoc]
      exact hd2
    have lt0 : ∀ {b : Addr} {o : Obj} {dx : Nat}, h0.get? b = some o → h0.objs.size ≤ dx → b ≠ dx := fun {b o dx} e z => Nat.ne_of_lt (Nat.lt_of_lt_of_le (Heap.lt_size e) z)
    cases acc with
    | nil =>
      obtain ⟨t1, hx⟩ := hd
      refine st_new SF XK hx hcd hh ov sa f2 fun h' tk dx kk dn dne szn hx' hn => fin h' tk (fun b o hb e => kk b o hb (k b o hb e)) (Nat.le_trans sz szn) ⟨t1, dx, Nat.le_trans sz dn, dne, hx', ?_⟩
      have e : (fun y => List.lookup y [(f, u)]) = fun y => if y = f then some u else none := by
        funext y
        exact look_put f y u []
      rw [e]
      exact hn
    | cons a acc =>
      obtain ⟨t1, dx, dn, dne, hx, hn⟩ := hd
      refine st_old SF XK hx hn (look_in (a :: acc)) (by simp at hz ⊢; omega) hcd hh ov sa f2 fun h' tk kk szn hn' => fin h' tk (fun b o hb e => kk b o (lt0 e dn) (k b o hb e)) (Nat.le_trans sz szn) ⟨t1, dx, dn, dne, kk x _ dne.symm hx, ?_⟩
      have e : (fun y => List.lookup y ((f, u) :: a :: acc)) = fun y => if y = f then some u else List.lookup y (a :: acc) := by
        funext y
        exact look_put f y u _
      rw [e]
      exact hn'
end
/-- the written text of such an __init__ -/
structure Txt (st : Stmt) (fs : List Str) : Prop where
  ne : fs ≠ []
  few : fs.length ≤ 900
  kind : (defScope st).kind = .function
  co : (defScope st).isCoroutine = false
  gen : (defScope st).isGenerator = false
  nocell : ∀ x ∈ (defScope st).names, x.2 ≠ .cell
  ls : (defScope st).names.lookup ("super" : Str) = some .globalImplicit
  lc : (defScope st).names.lookup ("__class__" : Str) = some .free
  lself : (defScope st).names.lookup ("self" : Str) = some .local
  lf : ∀ f ∈ fs, (defScope st).names.lookup f = some .local ∧ (f == ("__debug__" : Str)) = false ∧ f ≠ "self"
  nd : fs.Nodup
  ar : ∃ a : Arg, ((defArgs st).posonlyargs ++ (defArgs st).args).head? = some a ∧ a.arg = "self"
  bd : ∀ (qual : Str) (doc pm cdv ct : Value) (an : Option Addr) (cc : Addr) (u : Value) (vs : List Value), vs.length = fs.length →
    bindArgs (ksFn "__init__" qual (defArgs st) (defBody st) (defScope st) .none .none doc pm an cdv ct cc) ⟨u :: vs, []⟩ = pure ((("self" : Str), u) :: fs.zip vs)
  body : ∃ tx p0 p1 p2 p3 p4 p5 rest, defBody st = supS tx p0 p1 p2 p3 p4 p5 :: rest ∧ OneRow tx p0 p1 p2 p3 p4 ∧ Flds rest fs
/-- what the top leaves of such a class -/
structure Cx' (P : Program) (K : Frag) (mg : Str → Option Value) (nm : Str) (st : Stmt) (fs : List Str) (B newId initId : String) (bmB : List Value) (C : Addr) : Prop where
  gC : mg nm = some (.ref C)
  ini : excInitIn K C bmB newId = true
  over : excOver K C bmB = true
  hd : hasDictIn K C = true
  sa : findIn K (.ref C) "__setattr__" = some (some (.builtin "object.__setattr__"))
  ga : findIn K (.ref C) "__getattribute__" = some (some (.builtin "BaseException.__getattribute__"))
  gg : findIn K (.ref C) "__getattr__" = some none
  noF : ∀ f ∈ fs, findIn K (.ref C) f = some none
  kC : keepIn K (.ref C) = true
  exC : subIn K (.ref C) (.type "BaseException") = some true
  tyC : typeIn K (.ref C) = some (.type "type")
  hB : subIn K (.ref C) (.type B) = some true
  hsub : mroIn K C (.ref C) = some true
  opq : nsIn K cStatics "thirdparty.any" = some none
  sup : ks_superIn K C C "__init__" = some (some (.builtin initId))
  mgs : mg "super" = none
  top : (P.main.scope.names.lookup ("super" : Str)).isSome = false
  fn : ∃ (fI : Addr) (oc : Value) (od : Option Addr) (qual : Str) (doc pm : Value) (an : Option Addr) (cda : Addr) (ct : Value) (cc : Addr) (osl : Array (Option Value)), findIn K (.ref C) "__init__" = some (some (.ref fI)) ∧ typeIn K (.ref fI) = some (.type "function") ∧
    K.lookup fI = some ⟨oc, od, .func (ksFn "__init__" qual (defArgs st) (defBody st) (defScope st) .none .none doc pm an (.ref cda) ct cc), osl⟩ ∧ codeIn K (.ref cda) qual = true ∧
    (∃ (cl : Value) (cld : Option Addr) (csl : Array (Option Value)), K.lookup cc = some ⟨cl, cld, .cell (some (.ref C)), csl⟩) ∧
    ∃ (ccl : Value) (cdd : Option Addr) (vs : Array Value) (ccs : Array (Option Value)) (file : Str) (tf : Tok), K.lookup cda = some ⟨ccl, cdd, .fields vs, ccs⟩ ∧ vs[2]? = some (.str file tf) ∧ ((P.main.file : Str) == file) = true
structure Base (B newId initId : String) (bmB : List Value) : Prop where
  FB : ExcBaseFacts B newId initId bmB
  KF : KxsFacts B initId
  SF : StoreFacts B bmB "object.__setattr__" "object"
theorem base_Lookup : Base "LookupError" "LookupError.__new__" "LookupError.__init__" [.type "LookupError", .type "Exception", .type "BaseException", .type "object"] := ⟨F.excBase_LookupError, kxs_LookupError, F.store_LookupError⟩
theorem base_Runtime : Base "RuntimeError" "RuntimeError.__new__" "RuntimeError.__init__" [.type "RuntimeError", .type "Exception", .type "BaseException", .type "object"] := ⟨F.excBase_RuntimeError, kxs_RuntimeError, F.store_RuntimeError⟩
theorem base_Arith : Base "ArithmeticError" "ArithmeticError.__new__" "ArithmeticError.__init__" [.type "ArithmeticError", .type "Exception", .type "BaseException", .type "object"] := ⟨F.excBase_ArithmeticError, kxs_ArithmeticError, F.store_ArithmeticError⟩
theorem base_Value : Base "ValueError" "ValueError.__new__" "ValueError.__init__" [.type "ValueError", .type "Exception", .type "BaseException", .type "object"] := ⟨F.excBase_ValueError, kxs_ValueError, F.store_ValueError⟩
theorem zip_look {β : Type} : ∀ {fs : List Str} {us : List β} (p : Str × β), fs.Nodup → p ∈ fs.zip us → (fs.zip us).reverse.lookup p.1 = some p.2
  | [], _, p, _, h => by simp at h
  | _ :: _, [], p, _, h => by simp at h
  | f :: fs, u :: us, p, nd, h => by
    rw [List.zip_cons_cons, List.reverse_cons, List.lookup_append]
    obtain ⟨n1, n2⟩ := List.nodup_cons.mp nd
    rcases List.mem_cons.mp h with rfl | h
    · have e : List.lookup f (fs.zip us).reverse = none := by
        rw [List.lookup_eq_none_iff]
        intro q hq
        have := (List.of_mem_zip (List.mem_reverse.mp hq)).1
        have hne : q.1 ≠ f := fun z => n1 (by rw [← z]; exact this)
        exact by simpa using Ne.symm hne
      rw [e]
      simp [List.lookup]
    · rw [zip_look p n2 h]
      rfl
section
variable {P : Program} {w : World} {A : Around} {R : Result → Shared → Prop} {K : Frag} {mg mb : Str → Option Value} {nm : Str} {st : Stmt} {fs : List Str} {B newId initId : String} {bmB : List Value} {C : Addr} {s : Shared}
theorem run_init {x t0 : Addr} {us : List Value} (T : Cx' P K mg nm st fs B newId initId bmB C) (TT : Txt st fs) (BB : Base B newId initId bmB) {fI : Addr} (iC : findIn K (.ref C) "__init__" = some (some (.ref fI)))
    (X : K.In s.heap) (hg : s.heap.Ns mainGlobals mg) (hb : s.heap.Ns builtinsNs mb) (hbs : mb "super" = some (.type "super")) (hlim : s.heap.NoLimit) (hx : s.heap.get? x = some (exI C t0 none)) (hnx : K.lookup x = none)
    (hroom : A.depth < recursionLimit) (hl : us.length = fs.length)
    (hq : ∀ h' tk t1 dx, (∀ b o, b ≠ x → s.heap.get? b = some o → h'.get? b = some o) → s.heap.objs.size ≤ dx → dx ≠ x → h'.get? x = some (exI C t1 (some dx)) → h'.Ns1 dx (fun y => (fs.zip us).reverse.lookup y) → R (.ok (.ret .none)) { s with heap := h', toks := tk }) :
    codeAny (model P w) A (.call (.ref fI) ⟨.ref x :: us, []⟩) R s := by
  obtain ⟨fI', oc, od, qual, doc, pm, an, cda, ct, cc, osl, i1, i2, i3, i4, ⟨cl, cld, csl, i5⟩, ccl, cdd, vs, ccs, file, tf, i6, i7, i8⟩ := T.fn
  have e := i1.symm.trans iC
  cases e
  obtain ⟨tx, p0, p1, p2, p3, p4, p5, rest, eb, row, hF⟩ := TT.body
  obtain ⟨ar, a1, a2⟩ := TT.ar
  obtain ⟨cd, hcd, hh⟩ : ∃ cd, clsIn K C = some cd ∧ cd.hasDict = true := by
    have z := T.hd
    unfold hasDictIn at z
    cases c : clsIn K C with
    | none => rw [c] at z; cases z
    | some cd => exact ⟨cd, rfl, by rw [c] at z; exact z⟩
  have hsup : alongIn K "__init__" ((cd.mro.dropWhile (· != .ref C)).drop 1) = some (some (.builtin initId)) := by
    have z := T.sup
    unfold ks_superIn at z
    rw [hcd] at z
    exact z
  have kd := TT.kind
  have loc : ∀ y ∈ ((("self" : Str), Value.ref x) :: fs.zip us), (defScope st).names.lookup y.1 = some .local := fun y hy => by
    rcases List.mem_cons.mp hy with rfl | hy
    · exact TT.lself
    · exact (TT.lf _ (List.of_mem_zip hy).1).1
  refine ks_codeAny_call_defAt (fd := ksFn "__init__" qual (defArgs st) (defBody st) (defScope st) .none .none doc pm an (.ref cda) ct cc) (body := defBody st) (binds := (("self" : Str), .ref x) :: fs.zip us) hroom (X _ _ i3) rfl hlim
    (codeRec_of X i4) rfl (BindsTo.of_eq (TT.bd _ _ _ _ _ _ _ _ _ hl)) TT.nocell loc (fun h0 hns k => ?_) TT.co TT.gen TT.kind
  have X0 : K.In h0 := X.keeps k
  have Lx : s.heap.objs.size ≠ x := Nat.ne_of_gt (Heap.lt_size hx)
  have hm0 : ((("self" : Str), Value.ref x) :: fs.zip us).reverse.lookup ("self" : Str) = some (Value.ref x) := by
    rw [List.reverse_cons, List.lookup_append]
    have e : List.lookup ("self" : Str) (fs.zip us).reverse = none := by
      rw [List.lookup_eq_none_iff]
      intro q hq
      have := (TT.lf _ (List.of_mem_zip (List.mem_reverse.mp hq)).1).2.2
      exact by simpa using Ne.symm this
    rw [e]
    rfl
  have hmf : ∀ p ∈ fs.zip us, ((("self" : Str), Value.ref x) :: fs.zip us).reverse.lookup p.1 = some p.2 := fun p hp => by
    rw [List.reverse_cons, List.lookup_append, zip_look p TT.nd hp]
    rfl
  have hlf := TT.lf
  have hls := TT.ls
  have hlc := TT.lc
  have hlself := TT.lself
  have eE : callEnv (ksFn "__init__" qual (defArgs st) (defBody st) (defScope st) .none .none doc pm an (.ref cda) ct cc) s.heap.objs.size fI = ksEnv qual (defScope st) s.heap.objs.size fI (.ref cda) cc := rfl
  rw [eE]
  generalize hsc : defScope st = sc at i3 kd hlf hls hlc hlself
  obtain ⟨kk, nms, g1, g2, mo⟩ := sc
  dsimp only at kd hlf hls hlc hlself
  subst kd
  have szL : s.heap.objs.size < h0.objs.size := hns.lt
  rw [eb]
  refine ks_wpAt_execs_cons (ex_super (s := { s with heap := h0, toks := _ }) (fd := ksFn "__init__" qual (defArgs st) (defBody st) ⟨.function, nms, g1, g2, mo⟩ .none .none doc pm an (.ref cda) ct cc) row BB.FB BB.KF X0 T.ini hcd (hg.keeps k) T.mgs (hb.keeps k) hbs hns hm0 (k _ _ hx) i3 a1 a2 i6 i7 i8 T.top i5 T.hsub T.opq hsup T.hB rfl hls hlc hlself
    fun h1 tk t1 k1 sz1 e1 => ?_)
  refine wpAt_of_wpAny (run_flds (h0 := h0) BB.SF X0 hnx hns Lx hm0 hlself hcd hh T.over T.sa hF [] us { s with heap := h1, toks := tk } k1 sz1 ⟨t1, e1⟩ hmf hl (by have := TT.few; simpa using this) (fun f hf => ⟨(hlf f hf).1, T.noF f hf, (hlf f hf).2.1⟩) fun h2 tk2 k2 sz2 hd2 => ?_)
  rw [List.append_nil] at hd2
  have nn : (fs.zip us).reverse ≠ [] := by
    have := TT.ne
    cases fs with
    | nil => exact absurd rfl this
    | cons f fs =>
      cases us with
      | nil => simp at hl
      | cons u us => simp
  cases er : (fs.zip us).reverse with
  | nil => exact absurd er nn
  | cons a m =>
    rw [er] at hd2
    obtain ⟨t2, dx, dn, dne, hx2, hn2⟩ := hd2
    rw [er] at hq
    exact hq h2 tk2 t2 dx (fun b o hb e => k2 b o hb (k b o e)) (Nat.le_of_lt (Nat.lt_of_lt_of_le szL dn)) dne hx2 hn2
end
end EX
end Rc

namespace Rc
namespace EX
open PySem PySem.W PySem.Calls PyProof.Rows PySem.HandSPX
open L2 (defScope defBody defArgs)
section
variable {P : Program} {w : World} {A : Around} {R : Result → Shared → Prop} {K : Frag} {mg mb : Str → Option Value} {nm : Str} {st : Stmt} {fs : List Str} {B newId initId : String} {bmB : List Value} {C : Addr} {s : Shared}
/-- a new exception of the class, from its place e -/
structure Made (h h' : Heap) (e C d : Addr) (m : List (Str × Value)) : Prop where
  keep : ∀ b o, h.get? b = some o → h'.get? b = some o
  new : h.objs.size ≤ e
  obj : ∃ t1, h'.get? e = some (exI C t1 (some d))
  dbig : h.objs.size ≤ d
  dne : d ≠ e
  ns : h'.Ns1 d (fun y => m.lookup y)
theorem made {us : List Value} (T : Cx' P K mg nm st fs B newId initId bmB C) (TT : Txt st fs) (BB : Base B newId initId bmB)
    (X : K.In s.heap) (hg : s.heap.Ns mainGlobals mg) (hb : s.heap.Ns builtinsNs mb) (hbs : mb "super" = some (.type "super")) (hlim : s.heap.NoLimit)
    (hroom : A.depth + 1 < recursionLimit) (hl : us.length = fs.length)
    (hq : ∀ h' tk e d, Made s.heap h' e C d (fs.zip us).reverse → R (.ok (.ret (.ref e))) { s with heap := h', toks := tk }) :
    codeAny (model P w) A (.call (.ref C) ⟨us, []⟩) R s := by
  obtain ⟨nm', N', qn, bs, bm, hdct, sn, sub, ab, col, dd, k0, k1, k2, k3, k5, hC, hT⟩ := excInit_of X T.ini
  obtain ⟨fI, oc, od, qual, doc, pm, an, cda, ct, cc, osl, i1, i2, _⟩ := T.fn
  obtain ⟨hp, g, dr, tk, os⟩ := s
  have kp : ∀ b o, hp.get? b = some o → ((hp.push (kdv_tup us)).push (excO C hp.objs.size)).get? b = some o := fun b o e => Heap.get?_push_of_some _ (Heap.get?_push_of_some _ e)
  have hget : ((hp.push (kdv_tup us)).push (excO C hp.objs.size)).get? (hp.objs.size + 1) = some (exI C hp.objs.size none) := by heap_get
  have hnx : K.lookup (hp.objs.size + 1) = none := by
    cases e : K.lookup (hp.objs.size + 1) with
    | none => rfl
    | some o => exact absurd (Nat.lt_of_succ_lt (Heap.lt_size (X _ _ e))) (Nat.lt_irrefl _)
  have hfew : us.length ≤ sizeLine := by
    have := TT.few
    rw [hl, sizeLine_eq]
    omega
  refine call_own BB.FB hT hC (looks_findIn X i1) (fun self => bind_fn X self i2) hfew ?_
  refine run_init (s := ⟨(hp.push (kdv_tup us)).push (excO C hp.objs.size), g, dr, tk, os⟩) T TT BB i1 (X.keeps kp) (hg.keeps kp) (hb.keeps kp) hbs (hlim.keeps kp) hget hnx ?_ hl fun h' tk' t1 dx k' dn dne hx hns => ?_
  · show A.depth + 1 < recursionLimit
    exact hroom
  · have sz : hp.objs.size + 1 + 1 ≤ dx := by
      have q := dn
      simp only [Heap.size_push] at q
      exact q
    exact ⟨rfl, hq h' tk' (hp.objs.size + 1) dx ⟨fun b o e => k' b o (Nat.ne_of_lt (Nat.lt_succ_of_lt (Heap.lt_size e))) (kp b o e), Nat.le_succ _, ⟨_, hx⟩, (show hp.objs.size ≤ dx by omega), dne, hns⟩⟩
end
end EX
open PySem PySem.Spec PyProof.Rows L2
theorem look_rel : ∀ {fs : List Str} {vs : List V} {us : List Value}, Vals vs us → ∀ f : Str, RelO ((fs.zip vs).reverse.lookup f) ((fs.zip us).reverse.lookup f)
  | [], _, _, _, f => trivial
  | _ :: _, _, _, .nil, f => trivial
  | g :: fs, v :: vs, u :: us, .cons r rs, f => by
    rw [List.zip_cons_cons, List.zip_cons_cons, List.reverse_cons, List.reverse_cons, List.lookup_append, List.lookup_append]
    have ih := look_rel (fs := fs) rs f
    cases e1 : (fs.zip vs).reverse.lookup f with
    | some a =>
      cases e2 : (fs.zip us).reverse.lookup f with
      | some b => rw [e1, e2] at ih; exact ih
      | none => rw [e1, e2] at ih; exact ih.elim
    | none =>
      cases e2 : (fs.zip us).reverse.lookup f with
      | some b => rw [e1, e2] at ih; exact ih.elim
      | none =>
        show RelO (List.lookup f [(g, v)]) (List.lookup f [(g, u)])
        by_cases h : f = g
        · subst h
          simp [List.lookup]
          exact r
        · have hb : (f == g) = false := by simpa using h
          simp [List.lookup, hb]
          trivial
section
variable {X : Cx} {nm : Str} {st : Stmt} {fs : List Str} {B newId initId : String} {bmB : List Value} {C : Addr}
/-- C(e, ..) -/
def tMkE (C : Addr) (fs : List Str) (ta : TA) : L2.St → Hp → XK → Prop := fun σ H Q => ta σ H fun vs H1 => vs.length = fs.length ∧ ∀ d, H1 d = none → Q (.ref C) (some d) (upd H1 d (.xd (fs.zip vs).reverse))
theorem pmk_ex {e : Expr} {es : List Expr} {ta : TA} {p pos : Pos} {k : Nat} (T : EX.Cx' X.prog X.K X.mg nm st fs B newId initId bmB C) (TT : EX.Txt st fs) (BB : EX.Base B newId initId bmB) (hr : Room (k + 1) X.A) (ha : PA X (e :: es) ta) (hg : Gl X nm)
    (hdb : (nm == ("__debug__" : Str)) = false := by decide) (he : starEach (e :: es) X.env = (false, eval e X.env) :: starEach es X.env := by rfl) (hpl : (backTo pos (starEach es X.env)).any (·.1) = false := by rfl) :
    PMk X (.Call (.Name nm p) (e :: es) [] pos) (tMkE C fs ta) := by
  intro pins s σ H Q I h
  refine wpAny_Call_Name_kw (ld_glob I hg T.gC ?_ hdb)
  refine PySem.W.callWith_K (h₀ := X.base) I.ok.mod.kin T.kC (thn (ha.run pos pins s σ H _ I h) fun us s1 hh => ?_) he hpl
  obtain ⟨vs, H1, I1, r1, hl, q1⟩ := hh
  refine ⟨I1.kIn, ?_⟩
  show wpAny _ _ (call (.ref C) us) _ _ _
  obtain ⟨mb, b1, b2⟩ := I1.ok.mod.blt
  have hlim := I1.nolimit
  have kb := I1.bk
  obtain ⟨hp, g, dr, tk, os⟩ := s1
  refine wpAny_call (EX.made T TT BB I1.kIn (I1.ok.mod.glob.keeps kb) (b1.keeps kb) ((b2 _ (by decide)).trans (by decide +kernel : bootBuiltins "super" = some (.type "super"))) hlim (by have := hr.dp; omega) (r1.length.symm.trans hl) fun h' tk' a d M => ?_)
  show MkP X pins σ Q (.ref a) ⟨h', g, dr, tk', os⟩
  obtain ⟨t1, hoe⟩ := M.obj
  obtain ⟨G, g1, g2⟩ := restrict h' fun b => decide (b ≠ a)
  have gk : ∀ b, b ≠ a → G.get? b = h'.get? b := fun b hb => g1 b (decide_eq_true hb)
  have ge : G.get? a = none := g2 a (by simp)
  have old : ∀ b o, hp.get? b = some o → G.get? b = some o := fun b o q => (gk b (Nat.ne_of_lt (Nat.lt_of_lt_of_le (Heap.lt_size q) M.new))).trans (M.keep b o q)
  have ob : ObjOk X.prog X.w (upd H1 d (.xd (fs.zip vs).reverse)) G d (.xd (fs.zip vs).reverse) := ⟨_, M.ns.at (fun o q => (gk d M.dne).trans q), look_rel r1⟩
  have J : Inv X pins σ (upd H1 d (.xd (fs.zip vs).reverse)) ⟨G, g, dr, tk', os⟩ := I1.laid (t' := tk') old M.dbig ob
  refine ⟨a, _, _, ⟨G, g, dr, tk', os⟩, _, .ref C, some d, rfl, J, fun b o q => ?_, ge, hoe, ⟨rfl, rfl⟩, rfl, rfl, ?_, rfl, I1.bare, raises_own T.exC T.tyC, q1 d (I1.hok.fresh M.dbig)⟩
  · by_cases hb : b = a
    · have q' : G.get? b = some o := q
      rw [hb, ge] at q'
      cases q'
    · exact (gk b hb).symm.trans q
  · rw [upd_ne (Ne.symm M.dne)]
    exact I1.hok.fresh M.new
end
end Rc

namespace Rc
open PySem PySem.Spec PyProof.Rows L2
/-! ### several except clauses, with names or without -/
abbrev Suite := Addr → Value → Option Addr → TS
/-- behind a suite its name has gone -/
abbrev offD (i : Nat) (D : Ends) : Ends := { nx := fun τ G => D.nx (τ.set i none) G, rt := D.rt, bk := fun τ G => D.bk (τ.set i none) G, ct := fun τ G => D.ct (τ.set i none) G }
def wMix (K : PySem.W.Frag) (Wo : WX) (D : Ends) : List (Value × Option Nat × Suite) → WX
  | [] => Wo
  | (c, none, ts) :: r => fun cls d σ H => ∃ y, PySem.W.exmOne K cls c = some y ∧ (y = true → ∀ a, H a = none → ts a cls d D σ H) ∧ (y = false → wMix K Wo D r cls d σ H)
  | (c, some i, ts) :: r => fun cls d σ H => ∃ y, PySem.W.exmOne K cls c = some y ∧ (y = true → ∀ a, H a = none → ts a cls d (offD i D) (σ.set i (some (.ref a))) H) ∧ (y = false → wMix K Wo D r cls d σ H)
abbrev SuiteOk (X : Cx) (ss : List Stmt) (ts : Suite) : Prop := ∀ (a : Addr) (oe : Obj) (cls : Value) (d : Option Addr) (pn : List (Addr × Obj)), Zc cls d oe → (∃ vs, oe.data = .fields vs) → PSs (X.suite a ((a, oe) :: pn)) ss (ts a cls d)
inductive HdsX (X : Cx) : List ExceptHandler → List (Value × Option Nat × Suite) → Prop
  | nil : HdsX X [] []
  | plain {x : Str} {c : Value} {ts : Suite} {s0 : Stmt} {ss : List Stmt} {p1 p2 : Pos} {hs : List ExceptHandler} {l : List (Value × Option Nat × Suite)} (hc : Names X x c) (ok : SuiteOk X (s0 :: ss) ts) (r : HdsX X hs l) :
      HdsX X (.ExceptHandler (some (.Name x p1)) none (s0 :: ss) p2 :: hs) ((c, none, ts) :: l)
  | named {x n : Str} {i : Nat} {c : Value} {ts : Suite} {s0 : Stmt} {ss : List Stmt} {p1 p2 : Pos} {hs : List ExceptHandler} {l : List (Value × Option Nat × Suite)} (hi : X.N[i]? = some n) (hn : X.env.kindOf n = some .local) (hc : Names X x c) (ok : SuiteOk X (s0 :: ss) ts) (r : HdsX X hs l) :
      HdsX X (.ExceptHandler (some (.Name x p1)) (some n) (s0 :: ss) p2 :: hs) ((c, some i, ts) :: l)
section
variable {X : Cx} {body : List Stmt} {hd : ExceptHandler} {hds : List ExceptHandler} {l : List (Value × Option Nat × Suite)} {pos : Pos} {tb : WX → TS} {Wo : WX}
theorem ps_try_mix (est : X.stack = X.env :: X.outer) (efr : X.env.frame = some X.env.locals) (nd : X.N.Nodup) (tk : Takes X Wo)
    (hb : ∀ (W : WX) (pn : List (Addr × Obj)) (xe : Value → Shared → Prop), Takes (X.tr pn xe) W → PassesOwn (model X.prog X.w) X.A X.env xe → PSs (X.tr pn xe) body (tb W))
    (hh : HdsX X (hd :: hds) l) : PS X (.Try body (hd :: hds) [] [] pos) (fun D σ H => tb (wMix X.K Wo D l) D σ H) := by
  refine ⟨fun pins s σ H D I hw => ?_⟩
  have ok := I.ok
  have frs1 : X.A.frames = some (X.env :: X.outer) := ok.frames.trans (congrArg some est)
  refine wpAny_Try_except (wpAny_mono ((hb (wMix X.K Wo D l) (X.pn ++ pins) (fun u s1 => wpAny (model X.prog X.w) X.A (noteFrame u X.env) (fun _ s2 => wpAny (model X.prog X.w) X.A (setFlight u none) (fun _ s3 =>
    wpAny (model X.prog X.w) X.A (handleBy u X.env (hd :: hds)) (SP X pins D) X.xe s3) X.xe s2) X.xe s1) (fun u s' z => ?_) PassesOwn.looking).run [] s σ H D (I.toTry _) hw) (fun fl s1 z => ?_) (fun _ _ z => z))
  · obtain ⟨a, Bs, sI, pins', τ, G, cls, d, rfl, J', nb, up, sky, na, os, ag, ww⟩ := z
    have J : Inv X pins τ G sI := J'.ofTry ok
    have sky1 : Sky Bs (X.env :: X.outer) a (Zc cls d) X.env.locals s'.heap := est ▸ sky
    show wpAny (model X.prog X.w) X.A (noteFrame (.ref a) X.env) _ _ _
    refine Sky.land Zc.steady frs1 efr sky1 fun h3 fl3 up3 => ?_
    have J3 : Inv X pins τ G { s' with heap := h3 } := J.landed nb fl3.1 (up.trans up3) os ag
    obtain ⟨o3, v3, e3, z3, d3⟩ := fl3.there
    have nfr : a ∉ frs (X.env :: X.outer) := fun hm => by
      obtain ⟨_, o', e', no'⟩ := fl3.2.2.1.mem hm
      rw [e3] at e'
      cases e'
      exact no' _ d3
    have nL : a ≠ X.env.locals := fun y => nfr (List.mem_filterMap.mpr ⟨X.env, List.mem_cons_self, by rw [efr, y]⟩)
    have nF : a ∉ X.fs := fun hm => by
      obtain ⟨e, he, q⟩ := List.mem_filterMap.mp hm
      exact nfr (List.mem_filterMap.mpr ⟨e, .tail _ he, q⟩)
    have S3 := J3.suite e3 d3 na nL nF
    have LT : PySem.W.Looks (model X.prog X.w) h3 (typeOf (.ref a)) cls := fun A Q E s k q => wpAny_typeOf_ref (k _ _ e3) (by rw [z3.1]; exact q)
    have look : ∀ {x : Str} {c : Value} {np : Pos} {Q : Value → Shared → Prop} {E : Value → Shared → Prop}, Names X x c → Q c { s' with heap := h3 } → wpAny (model X.prog X.w) (X.A.mark (some (.ref a))) (eval (.Name x np) X.env) Q E { s' with heap := h3 } := fun {x c np Q E} hc q => by
      obtain ⟨hg, hdb, hm | ⟨hm, hv, hnn⟩⟩ := hc
      · exact ld_glob (X := X.suite a ((a, o3) :: (X.pn ++ pins))) S3 hg hm q hdb
      · exact ld_blt (X := X.suite a ((a, o3) :: (X.pn ++ pins))) S3 hg hm hv q hnn hdb
    have go : ∀ {hs' : List ExceptHandler} {l' : List (Value × Option Nat × Suite)}, HdsX X hs' l' → wMix X.K Wo D l' cls d τ G → wpAny (model X.prog X.w) X.A (handleBy (.ref a) X.env hs') (SP X pins D) X.xe { s' with heap := h3 } := by
      intro hs' l' hk
      induction hk with
      | nil =>
        intro wo
        refine wpAny_handleBy_nil ?_
        obtain ⟨k1, k2, k3, oe, vs, TB, oT, ts', he, hz, hdd, h1, hr⟩ := id fl3
        unfold PySem.passOn
        refine wpAny_bind (wpAny_field he hdd h1 ?_)
        rw [if_neg (show ¬ ((Value.ref TB == Value.none) = true) from by simp)]
        have last : wpAny (model X.prog X.w) X.A (setFlight (.ref a) X.env.frame) (fun _ s4 => wpAny (model X.prog X.w) X.A (throw (.ref a) : Sem Flow) (SP X pins D) X.xe s4) X.xe { s' with heap := h3 } := by
          rw [efr]
          refine HandSPX.setFlight_upZ fl3 fun h4 hh4 up4 => wpAny_throw (tk _ _ ⟨a, Bs, sI, pins, τ, G, cls, d, rfl, J, nb, (up.trans up3).trans up4, .inr (.inr (by rw [est]; exact hh4)), na, os, ag, wo⟩)
        first
          | exact wpAny_bind (wpAny_pure (wpAny_bind last))
          | exact wpAny_bind last
      | @plain x c ts s0 ss p1 p2 hs2 l2 hc sok r ih =>
        intro ⟨y, hy, yes, no⟩
        refine wpAny_handleBy_cons (codeAny_handlers_test ?_) (by intro q; cases q)
        refine look hc ((PySem.W.exm_one (M := model X.prog X.w) J3.kIn LT hy).here ?_)
        cases y with
        | false =>
          show wpAny _ X.A (handleBy (.ref a) X.env hs2) _ _ _
          exact ih (no rfl)
        | true =>
          refine codeAny_handlers_suite (HandSPX.lands_againZ fl3 fun h4 fl4 up4 => ?_)
          have J4 : Inv X pins τ G { s' with heap := h4 } := J.landed nb fl4.1 ((up.trans up3).trans up4) os ag
          obtain ⟨o4, v4, e4, z4, d4⟩ := fl4.there
          refine wpAny_mono ((sok a o4 cls d (X.pn ++ pins) z4 ⟨_, d4⟩).run [] _ _ G _ (J4.suite e4 d4 na nL nF) (yes rfl a na)) (fun fl s6 z6 => ?_) (fun _ _ z => False.elim z)
          cases fl with
          | next => exact let ⟨_, _, S6, q6⟩ := z6; ⟨_, _, S6.unsuite ok, q6⟩
          | brk => exact let ⟨_, _, S6, q6⟩ := z6; ⟨_, _, S6.unsuite ok, q6⟩
          | cont => exact let ⟨_, _, S6, q6⟩ := z6; ⟨_, _, S6.unsuite ok, q6⟩
          | ret u => exact let ⟨_, _, _, S6, r6, q6⟩ := z6; ⟨_, _, _, S6.unsuite ok, r6, q6⟩
      | @named x n i c ts s0 ss p1 p2 hs2 l2 hi hn hc sok r ih =>
        intro ⟨y, hy, yes, no⟩
        refine wpAny_handleBy_cons (codeAny_handlers_test ?_) (by intro q; cases q)
        refine look hc ((PySem.W.exm_one (M := model X.prog X.w) J3.kIn LT hy).here ?_)
        cases y with
        | false =>
          show wpAny _ X.A (handleBy (.ref a) X.env hs2) _ _ _
          exact ih (no rfl)
        | true =>
          refine codeAny_handlers_suite_as (HandSPX.lands_againZ fl3 fun h4 fl4 up4 => ?_)
          have J4 : Inv X pins τ G { s' with heap := h4 } := J.landed nb fl4.1 ((up.trans up3).trans up4) os ag
          obtain ⟨o4, v4, e4, z4, d4⟩ := fl4.there
          refine store_ok (X := X.suite a ((a, o4) :: (X.pn ++ pins))) (v := .ref a) (J4.suite e4 d4 na nL nF) nd hi (.inl hn) rfl (fun s5 S5 => ?_) (.inr hn)
          refine wpAny_mono ((sok a o4 cls d (X.pn ++ pins) z4 ⟨_, d4⟩).run [] s5 _ G _ S5 (yes rfl a na)) (fun fl s6 z6 => ?_) (fun _ _ z => False.elim z)
          have off : ∀ {σ6 : L2.St} {H6 : Hp} {Q : Shared → Prop}, Inv (X.suite a ((a, o4) :: (X.pn ++ pins))) [] σ6 H6 s6 → (∀ s7, Inv X pins (σ6.set i none) H6 s7 → Q s7) →
              wpAny (model X.prog X.w) X.A (do bindName X.env n .none; unbindBehindTheSuite X.env n p2) (fun _ s7 => Q s7) X.xe s6 := fun {σ6 H6 Q} S6 q => gone_ok (S6.unsuite ok) nd hi hn q
          cases fl with
          | next => exact let ⟨_, _, S6, q6⟩ := z6; off S6 fun s7 J7 => ⟨_, _, J7, q6⟩
          | brk => exact let ⟨_, _, S6, q6⟩ := z6; off S6 fun s7 J7 => ⟨_, _, J7, q6⟩
          | cont => exact let ⟨_, _, S6, q6⟩ := z6; off S6 fun s7 J7 => ⟨_, _, J7, q6⟩
          | ret u => exact let ⟨_, _, _, S6, r6, q6⟩ := z6; off S6 fun s7 J7 => ⟨_, _, _, J7, r6, q6⟩
    exact go hh ww
  · cases fl with
    | next => exact let ⟨_, _, J', q⟩ := z; wpAny_execs_nil ⟨_, _, J'.ofTry ok, q⟩
    | brk => exact let ⟨_, _, J', q⟩ := z; ⟨_, _, J'.ofTry ok, q⟩
    | cont => exact let ⟨_, _, J', q⟩ := z; ⟨_, _, J'.ofTry ok, q⟩
    | ret u => exact let ⟨_, _, _, J', r, q⟩ := z; ⟨_, _, _, J'.ofTry ok, r, q⟩
end
end Rc

namespace Rc
open PySem PySem.Spec PyProof.Rows L2
/-! ### NoSuch -/
abbrev sNoS : Stmt := inClass (topS 6) 0
theorem txNoS : EX.Txt sNoS ["who"] :=
  ⟨by simp, by decide, rfl, rfl, rfl, by decide +kernel, rfl, rfl, rfl, fun f hf => by
      obtain rfl := List.mem_singleton.mp hf
      exact ⟨rfl, by decide, by decide⟩, by decide, ⟨_, rfl, rfl⟩,
    fun _ _ _ _ _ _ _ _ vs hl => match vs, hl with | [v], _ => rfl, ⟨_, _, _, _, _, _, _, _, rfl, ⟨_, fun _ => rfl⟩, .cons .nil⟩⟩
abbrev ClsN (P : Program) (K : PySem.W.Frag) (mg : Str → Option Value) (CN : Addr) : Prop :=
  EX.Cx' P K mg "NoSuch" sNoS ["who"] "LookupError" "LookupError.__new__" "LookupError.__init__" [.type "LookupError", .type "Exception", .type "BaseException", .type "object"] CN
/-- dead code -/
def tNot : TE := fun _ _ _ => False
theorem pe_not_here {X : Cx} {e : Expr} : PE X e tNot := ⟨fun _ _ _ _ _ _ h => h.elim⟩
section
variable {P : Program} {w : World} {K : PySem.W.Frag} {mg : Str → Option Value} {base : Heap}
/-- what is no person is refused -/
def spNo (K : PySem.W.Frag) (C CN : Addr) : Sp := fun vs H _ E => ∃ b M v d, vs = [.ref b, v] ∧ BookAt K C H b M ∧ NamesOk M.names ∧ Dt K H v d ∧ ShortD d ∧ hasD M d = false ∧
  ∀ H' dd, Same H H' → H dd = none → H' dd = some (.xd [("who", v)]) → E (.ref CN) (some dd) H'
theorem spNo_len {C CN : Addr} {a b : Str} : ∀ vs H Q E, spNo K C CN vs H Q E → vs.length = [a, b].length := fun vs H Q E h => by
  obtain ⟨_, _, _, _, rfl, _⟩ := h
  rfl
/-- a def that refuses -/
structure HasX (P : Program) (w : World) (K : PySem.W.Frag) (mg : Str → Option Value) (base : Heap) (k : Nat) (nm : Str) (ps : List Str) (sp : Sp) (f : Addr) (fd : FuncData) : Prop where
  ok : FnOk P w K mg base (L2.CX P w) k f fd ps sp
  g : mg nm = some (.ref f)
  kp : PySem.W.keepIn K (.ref f) = true
  b : Binds K fd ps []
structure HasMX (P : Program) (w : World) (K : PySem.W.Frag) (mg : Str → Option Value) (base : Heap) (C : Addr) (k : Nat) (nm : Str) (ps : List Str) (sp : Sp) (f : Addr) (fd : FuncData) : Prop where
  ok : FnOk P w K mg base (L2.CX P w) k f fd ps sp
  m : Meth K C nm f
  b : Binds K fd ps []
theorem no_place {f fh C CN : Addr} {fd fdh : FuncData} (F : Fun K "place_of" "Book.place_of" sPlace f fd) (T : ClsF K C) (N : ClsN P K mg CN) (HS : HasM P w K mg base C 2 "has" ["self", "who"] (spHas K C) fh fdh) :
    FnOk P w K mg base (L2.CX P w) 3 f fd ["self", "who"] (spNo K C CN) := by
  refine F.okX scPlace spNo_len (fun cdv A outer s H vs Q E hr h => ?_)
  obtain ⟨b, M, v, d, rfl, hb, ok, hv, hs, hn, q⟩ := h
  refine ⟨_, pss_cons (ps_if (pt_not (pt_val (pe_meth (pv 0) T.cl HS.m HS.ok hr HS.b .nil pass0 (pa_cons (pv 1) pa_nil))))
      (pss_one (ps_raise rfl (takes_of rfl rfl rfl rfl) (pmk_ex N txNoS EX.base_Lookup hr (pa_cons (pv 1) pa_nil) (by rfl)))) pss_nil) pss_never, ?_⟩
  obtain ⟨dx, tn, on, wg, ws, wd, e, h1, hn', h2, h3, h4⟩ := hb.ex
  refine ⟨.ref b, rfl, b, dx, _, rfl, e, bf_no (NoF.mk' (by decide +kernel)), v, rfl, b, M, v, d, rfl, hb, ok, hv, hs, fun H1 s1 => ⟨_, rfl, ?_⟩⟩
  rw [hn]
  refine iteT ⟨v, rfl, rfl, fun dd nd => ?_⟩
  exact q _ dd (s1.trans (same_upd nd)) (s1.free nd) upd_same
theorem no_notes {f fp C CN : Addr} {fd fdp : FuncData} (F : Fun K "notes" "Book.notes" sNotes f fd) (T : ClsF K C) (B3 : Blt3 mg) (PL : HasMX P w K mg base C 3 "place_of" ["self", "who"] (spNo K C CN) fp fdp) :
    FnOk P w K mg base (L2.CX P w) 4 f fd ["self", "who"] (spNo K C CN) := by
  refine F.okX scNotes spNo_len (fun cdv A outer s H vs Q E hr h => ?_)
  obtain ⟨b, M, v, d, rfl, hb, ok, hv, hs, hn, q⟩ := h
  refine ⟨_, pss_one (ps_ret (pe_callTy call_listD (by rfl) B3.list (by decide +kernel) (pa_cons (pe_ix ix_tupD (pe_fld (pv 0) rfl) (pe_meth (pv 0) T.cl PL.m PL.ok hr PL.b .nil (passes_call (takes_of rfl rfl rfl rfl) fun _ _ _ _ z => z) (pa_cons (pv 1) pa_nil)) (fun _ _ => rfl)) pa_nil))), ?_⟩
  obtain ⟨dx, tn, on, wg, ws, wd, e, h1, hn', h2, h3, h4⟩ := hb.ex
  exact ⟨.ref b, rfl, b, C, dx, _, _, rfl, e, T.cl, T.n3, bf_stacks, .ref b, rfl, b, dx, _, rfl, e, bf_no (NoF.mk' (by decide +kernel)), v, rfl, b, M, v, d, rfl, hb, ok, hv, hs, hn, q⟩
theorem no_pile {f fs fn C CN : Addr} {fd fds fdn : FuncData} (F : Fun K "pile" "Book.pile" sPile f fd) (T : ClsF K C) (SP : Has P w K mg base 1 "split_notes" ["notes", "fallen"] (spSplit K) fs fds)
    (NT : HasMX P w K mg base C 4 "notes" ["self", "who"] (spNo K C CN) fn fdn) : FnOk P w K mg base (L2.CX P w) 5 f fd ["self", "who"] (spNo K C CN) := by
  refine F.okX scPile spNo_len (fun cdv A outer s H vs Q E hr h => ?_)
  obtain ⟨b, M, v, d, rfl, hb, ok, hv, hs, hn, q⟩ := h
  refine ⟨_, pss_cons (ps_asg (pe_call SP.ok (hr.mono (by decide)) (by rfl) SP.g SP.kp SP.b .nil pass0 (pa_cons (pe_meth (pv 0) T.cl NT.m NT.ok hr NT.b .nil (passes_call (takes_of rfl rfl rfl rfl) fun _ _ _ _ z => z) (pa_cons (pv 1) pa_nil)) (pa_cons pe_not_here pa_nil)))
      (pg_tup rfl (pgs_cons (pg_name (i := 2) scPile.nd rfl (.inl rfl)) (pgs_cons (pg_name (i := 3) scPile.nd rfl (.inl rfl)) pgs_nil)))) pss_never, ?_⟩
  obtain ⟨dx, tn, on, wg, ws, wd, e, h1, hn', h2, h3, h4⟩ := hb.ex
  exact ⟨.ref b, rfl, b, dx, _, rfl, e, bf_no (NoF.mk' (by decide +kernel)), v, rfl, b, M, v, d, rfl, hb, ok, hv, hs, hn, q⟩
end
end Rc

namespace Rc
open PySem PySem.Spec PyProof.Rows L2
/-! ### except clauses with a tuple of classes, of any length -/
theorem any_one {K : PySem.W.Frag} {cls c : Value} {b : Bool} (h : PySem.W.exmOne K cls c = some b) : PySem.W.exmAny K cls [c] = some b := by
  unfold PySem.W.exmAny
  rw [h]
  show some (b || false) = some b
  rw [Bool.or_false]
theorem any_hit {K : PySem.W.Frag} {cls c : Value} {r : List Value} {d : Bool} (h : PySem.W.exmOne K cls c = some true) (hr : PySem.W.exmAny K cls r = some d) : PySem.W.exmAny K cls (c :: r) = some true := by
  show (match PySem.W.exmOne K cls c, PySem.W.exmAny K cls r with
    | some b, some d => some (b || d)
    | _, _ => none) = _
  rw [h, hr]
  rfl
theorem any_miss {K : PySem.W.Frag} {cls c : Value} {r : List Value} {d : Bool} (h : PySem.W.exmOne K cls c = some false) (hr : PySem.W.exmAny K cls r = some d) : PySem.W.exmAny K cls (c :: r) = some d := by
  show (match PySem.W.exmOne K cls c, PySem.W.exmAny K cls r with
    | some b, some d => some (b || d)
    | _, _ => none) = _
  rw [h, hr]
  rfl
section
variable {M : Model} {K : PySem.W.Frag} {A : Around} {E : Value → Shared → Prop} {s : Shared}
theorem loop_unit {cs : List Value} {body : Value → PUnit → Sem (ForInStep PUnit)} {Q : PUnit → Shared → Prop} (hb : ∀ c ∈ cs, ∀ R : ForInStep PUnit → Shared → Prop, R (.yield .unit) s → wpAny M A (body c .unit) R E s) (q : Q .unit s) :
    wpAny M A (forIn cs PUnit.unit body) Q E s := by
  induction cs with
  | nil => rw [List.forIn_nil]; exact wpAny_pure q
  | cons c r ih =>
    rw [List.forIn_cons]
    refine wpAny_bind (hb c (.head _) _ ?_)
    exact ih fun c' m => hb c' (.tail _ m)
theorem loop_any {cls : Value} {cs : List Value} {b : Bool} {body : Value → Option Bool × PUnit → Sem (ForInStep (Option Bool × PUnit))} {Q : Option Bool × PUnit → Shared → Prop} (hx : PySem.W.exmAny K cls cs = some b)
    (hb : ∀ c ∈ cs, ∀ d, PySem.W.exmOne K cls c = some d → ∀ R : ForInStep (Option Bool × PUnit) → Shared → Prop, R (if d = true then .done (some true, .unit) else .yield (none, .unit)) s → wpAny M A (body c (none, .unit)) R E s)
    (q : Q (if b = true then some true else none, .unit) s) : wpAny M A (forIn cs ((none, PUnit.unit) : Option Bool × PUnit) body) Q E s := by
  induction cs generalizing b with
  | nil =>
    rw [List.forIn_nil]
    cases (show some false = some b from hx)
    exact wpAny_pure q
  | cons c r ih =>
    obtain ⟨b1, d1, x1, y1, z1⟩ := PySem.W.exmAny_cons hx
    subst z1
    rw [List.forIn_cons]
    refine wpAny_bind (hb c (.head _) b1 x1 _ ?_)
    cases b1 with
    | true => exact wpAny_pure q
    | false => exact ih y1 (fun c' m => hb c' (.tail _ m)) q
theorem exm_list {cs : List Value} {cls : Value} {tp e : Addr} {b : Bool} {h : Heap} (X : K.In h) (LT : PySem.W.Looks M h (typeOf (.ref e)) cls) (hp : h.get? tp = some { cls := .type "tuple", data := .seq cs.toArray }) (hx : PySem.W.exmAny K cls cs = some b) :
    PySem.W.Looks M h (excMatches (.ref e) (.ref tp)) b := by
  have all : ∀ c ∈ cs, ∃ d, PySem.W.exmOne K cls c = some d := by
    clear hp
    induction cs generalizing b with
    | nil => exact fun c m => nomatch m
    | cons c0 r ih =>
      obtain ⟨b1, d1, x1, y1, z1⟩ := PySem.W.exmAny_cons hx
      intro c m
      cases m with
      | head => exact ⟨b1, x1⟩
      | tail _ m => exact ih y1 c m
  intro A Q E s k q
  have LT0 : PySem.W.Looks M h (isInstance (.ref tp) (.type "tuple")) true := ((PySem.W.Looks.ld hp).andThen .now).andThen (PySem.W.Looks.of_pure isSubtype_tuple_tuple)
  have LT1 := LT.keeps k
  have LT0 := LT0.keeps k
  have hp' := k _ _ hp
  unfold excMatches
  refine wpAny_bind (LT0.at ?_)
  dsimp only
  rw [if_pos rfl]
  first
    | refine wpAny_bind (wpAny_seqItems hp' rfl ?_)
    | refine wpAny_bind (wpAny_bind (wpAny_seqItems hp' rfl (wpAny_pure ?_)))
  dsimp only [Option.getD_some, Option.getD]
  first
    | refine wpAny_bind (wpAny_pure (wpAny_bind (loop_unit (cs := cs) (fun c m R r => ?_) ?_)))
    | refine wpAny_pure (wpAny_bind (loop_unit (cs := cs) (fun c m R r => ?_) ?_))
    | refine wpAny_bind (loop_unit (cs := cs) (fun c m R r => ?_) ?_)
  · obtain ⟨d, x⟩ := all c m
    obtain ⟨e1, _⟩ := PySem.W.exm_cls (M := M) X x
    refine wpAny_bind ((e1.keeps k).at ?_)
    simp only [Bool.not_true, Bool.false_eq_true, if_false]
    first
      | exact wpAny_pure r
      | exact wpAny_bind (wpAny_pure (wpAny_pure r))
      | exact wpAny_bind (wpAny_pure r)
  · refine wpAny_bind (LT1.at ?_)
    refine wpAny_bind (loop_any (cls := cls) (cs := cs) hx (fun c m d x R r => ?_) ?_)
    · obtain ⟨_, S1⟩ := PySem.W.exm_cls (M := M) X x
      refine wpAny_bind ((S1.keeps k).at ?_)
      cases d <;> exact wpAny_pure r
    · cases b <;> exact wpAny_pure q
end

def wMixT (K : PySem.W.Frag) (Wo : WX) (D : Ends) : List (List Value × Option Nat × Suite) → WX
  | [] => Wo
  | (c, none, ts) :: r => fun cls d σ H => ∃ y, PySem.W.exmAny K cls c = some y ∧ (y = true → ∀ a, H a = none → ts a cls d D σ H) ∧ (y = false → wMixT K Wo D r cls d σ H)
  | (c, some i, ts) :: r => fun cls d σ H => ∃ y, PySem.W.exmAny K cls c = some y ∧ (y = true → ∀ a, H a = none → ts a cls d (offD i D) (σ.set i (some (.ref a))) H) ∧ (y = false → wMixT K Wo D r cls d σ H)
/-- the names of a tuple -/
inductive NamesL (X : Cx) : List Expr → List Value → Prop
  | nil : NamesL X [] []
  | cons {x : Str} {c : Value} {p : Pos} {es : List Expr} {cs : List Value} (hc : Names X x c) (r : NamesL X es cs) : NamesL X (.Name x p :: es) (c :: cs)
inductive SpecX (X : Cx) : Expr → List Value → Prop
  | one {x : Str} {c : Value} {p : Pos} (hc : Names X x c) : SpecX X (.Name x p) [c]
  | many {es : List Expr} {cs : List Value} {k : Nat} {p : Pos} (h : NamesL X es cs) (hl : cs.length ≤ sizeLine) : SpecX X (.Tuple es k p) cs
/-- a suite, the caught one not of the base -/
abbrev SuiteOkB (X : Cx) (ss : List Stmt) (ts : Suite) : Prop := ∀ (a : Addr) (oe : Obj) (cls : Value) (d : Option Addr) (pn : List (Addr × Obj)), X.base.get? a = none → Zc cls d oe → (∃ vs, oe.data = .fields vs) → PSs (X.suite a ((a, oe) :: pn)) ss (ts a cls d)
inductive HdsT (X : Cx) : List ExceptHandler → List (List Value × Option Nat × Suite) → Prop
  | nil : HdsT X [] []
  | plain {t : Expr} {c : List Value} {ts : Suite} {s0 : Stmt} {ss : List Stmt} {p2 : Pos} {hs : List ExceptHandler} {l : List (List Value × Option Nat × Suite)} (hc : SpecX X t c) (ok : SuiteOkB X (s0 :: ss) ts) (r : HdsT X hs l) :
      HdsT X (.ExceptHandler (some t) none (s0 :: ss) p2 :: hs) ((c, none, ts) :: l)
  | named {t : Expr} {n : Str} {i : Nat} {c : List Value} {ts : Suite} {s0 : Stmt} {ss : List Stmt} {p2 : Pos} {hs : List ExceptHandler} {l : List (List Value × Option Nat × Suite)} (hi : X.N[i]? = some n) (hn : X.env.kindOf n = some .local) (hc : SpecX X t c) (ok : SuiteOkB X (s0 :: ss) ts) (r : HdsT X hs l) :
      HdsT X (.ExceptHandler (some t) (some n) (s0 :: ss) p2 :: hs) ((c, some i, ts) :: l)
theorem fly_push {base h : Heap} {l : List Env} {e : Addr} {Z : Obj → Prop} {o : Obj} (x : HandSPX.FlyingZ base l e Z h) : HandSPX.FlyingZ base l e Z (h.push o) := by
  obtain ⟨f1, f2, f3, oe, vs, T, oT, ts, he, hz, hd, h1, hnT, hTe, hT, hdT, h3⟩ := x
  exact ⟨fun b o e => Heap.get?_push_of_some _ (f1 b o e), f2, f3.of_keeps fun b o e _ => ⟨o, Heap.get?_push_of_some _ e, rfl⟩, oe, vs, T, oT, ts, Heap.get?_push_of_some _ he, hz, hd, h1, hnT, hTe, Heap.get?_push_of_some _ hT, hdT, h3⟩
theorem up_push {h h' : Heap} {o : Obj} (u : h.UpToSlots h') : h.UpToSlots (h'.push o) := u.trans (Heap.UpToSlots.of_keeps fun b o e => Heap.get?_push_of_some _ e)
theorem kp_push {h : Heap} {o : Obj} : ∀ b u, h.get? b = some u → (h.push o).get? b = some u := fun _ _ e => Heap.get?_push_of_some _ e
section
variable {X : Cx} {body : List Stmt} {hd : ExceptHandler} {hds : List ExceptHandler} {l : List (List Value × Option Nat × Suite)} {pos : Pos} {tb : WX → TS} {Wo : WX}
/-- the names of a tuple are looked up -/
theorem names_run {A : Around} {E : Value → Shared → Prop} {s : Shared} {env : Env} {p : Pos} (look : ∀ {x : Str} {c : Value} {np : Pos} {Q : Value → Shared → Prop}, Names X x c → Q c s → wpAny (model X.prog X.w) A (eval (.Name x np) env) Q E s) :
    ∀ {es : List Expr} {cs : List Value}, NamesL X es cs → ∀ {Q : List Value → Shared → Prop}, Q cs s → wpAny (model X.prog X.w) A (spliced (backTo p (starEach es env))) Q E s := by
  intro es cs h
  induction h with
  | nil => exact fun q => wpAny_items_nil q
  | cons hc r ih => exact fun q => wpAny_items_cons (look hc (ih q))
theorem ps_try_mixT (est : X.stack = X.env :: X.outer) (efr : X.env.frame = some X.env.locals) (nd : X.N.Nodup) (tk : Takes X Wo)
    (hb : ∀ (W : WX) (pn : List (Addr × Obj)) (xe : Value → Shared → Prop), Takes (X.tr pn xe) W → PassesOwn (model X.prog X.w) X.A X.env xe → PSs (X.tr pn xe) body (tb W))
    (hh : HdsT X (hd :: hds) l) : PS X (.Try body (hd :: hds) [] [] pos) (fun D σ H => tb (wMixT X.K Wo D l) D σ H) := by
  refine ⟨fun pins s σ H D I hw => ?_⟩
  have ok := I.ok
  have frs1 : X.A.frames = some (X.env :: X.outer) := ok.frames.trans (congrArg some est)
  refine wpAny_Try_except (wpAny_mono ((hb (wMixT X.K Wo D l) (X.pn ++ pins) (fun u s1 => wpAny (model X.prog X.w) X.A (noteFrame u X.env) (fun _ s2 => wpAny (model X.prog X.w) X.A (setFlight u none) (fun _ s3 =>
    wpAny (model X.prog X.w) X.A (handleBy u X.env (hd :: hds)) (SP X pins D) X.xe s3) X.xe s2) X.xe s1) (fun u s' z => ?_) PassesOwn.looking).run [] s σ H D (I.toTry _) hw) (fun fl s1 z => ?_) (fun _ _ z => z))
  · obtain ⟨a, Bs, sI, pins', τ, G, cls, d, rfl, J', nb, up, sky, na, os, ag, ww⟩ := z
    have J : Inv X pins τ G sI := J'.ofTry ok
    have sky1 : Sky Bs (X.env :: X.outer) a (Zc cls d) X.env.locals s'.heap := est ▸ sky
    show wpAny (model X.prog X.w) X.A (noteFrame (.ref a) X.env) _ _ _
    refine Sky.land Zc.steady frs1 efr sky1 fun h3 fl3 up3 => ?_
    have off : ∀ {h5 : Heap} {o4 : Obj} {v4 : Array Value}, HandSPX.FlyingZ Bs (X.env :: X.outer) a (Zc cls d) h5 → h5.get? a = some o4 → o4.data = .fields v4 → a ≠ X.env.locals ∧ a ∉ X.fs := fun {h5 o4 v4} fl5 e4 d4 => by
      have nfr : a ∉ frs (X.env :: X.outer) := fun hm => by
        obtain ⟨_, o', e', no'⟩ := fl5.2.2.1.mem hm
        rw [e4] at e'
        cases e'
        exact no' _ d4
      refine ⟨fun y => nfr (List.mem_filterMap.mpr ⟨X.env, List.mem_cons_self, by rw [efr, y]⟩), fun hm => ?_⟩
      obtain ⟨e, he, q⟩ := List.mem_filterMap.mp hm
      exact nfr (List.mem_filterMap.mpr ⟨e, .tail _ he, q⟩)
    have nB : ∀ {h5 : Heap}, HandSPX.FlyingZ Bs (X.env :: X.outer) a (Zc cls d) h5 → X.base.get? a = none := fun {h5} fl5 => by
      cases e : X.base.get? a with
      | none => rfl
      | some o =>
        have h1 := (J.bs a o e).1
        have nf : a ∉ frs X.stack := fun hm => by
          rcases List.mem_cons.mp (J.stkSub a hm) with z | z
          · have lt : a < X.base.objs.size := Heap.lt_size e
            have le := Nat.le_trans ok.bsz ok.above
            rw [z] at lt
            exact absurd lt (Nat.not_lt.mpr le)
          · exact ok.nofr e z
        have h2 := nb a o h1 nf
        rw [fl5.2.1] at h2
        cases h2
    have look : ∀ {h3 : Heap} {x : Str} {c : Value} {np : Pos} {Q : Value → Shared → Prop} {E : Value → Shared → Prop}, HandSPX.FlyingZ Bs (X.env :: X.outer) a (Zc cls d) h3 → sI.heap.UpToSlots h3 → Names X x c → Q c { s' with heap := h3 } → wpAny (model X.prog X.w) (X.A.mark (some (.ref a))) (eval (.Name x np) X.env) Q E { s' with heap := h3 } := fun {h3 x c np Q E} fl3 up3 hc q => by
      have J3 : Inv X pins τ G { s' with heap := h3 } := J.landed nb fl3.1 up3 os ag
      obtain ⟨o3, v3, e3, z3, d3⟩ := fl3.there
      obtain ⟨nL, nF⟩ := off fl3 e3 d3
      have S3 := J3.suite e3 d3 na nL nF
      obtain ⟨hg, hdb, hm | ⟨hm, hv, hnn⟩⟩ := hc
      · exact ld_glob (X := X.suite a ((a, o3) :: (X.pn ++ pins))) S3 hg hm q hdb
      · exact ld_blt (X := X.suite a ((a, o3) :: (X.pn ++ pins))) S3 hg hm hv q hnn hdb
    have test : ∀ {h3 : Heap} {t : Expr} {c : List Value} {y : Bool} {Q : Bool → Shared → Prop} {E E' : Value → Shared → Prop}, HandSPX.FlyingZ Bs (X.env :: X.outer) a (Zc cls d) h3 → sI.heap.UpToSlots h3 → SpecX X t c → PySem.W.exmAny X.K cls c = some y →
        (∀ h4, HandSPX.FlyingZ Bs (X.env :: X.outer) a (Zc cls d) h4 → sI.heap.UpToSlots h4 → Q y { s' with heap := h4 }) →
        wpAny (model X.prog X.w) (X.A.mark (some (.ref a))) (eval t X.env) (fun u s1 => wpAny (model X.prog X.w) (X.A.mark (some (.ref a))) (excMatches (.ref a) u) Q E s1) E' { s' with heap := h3 } := fun {h3 t c y Q E E'} fl3 up3 hc hy q => by
      have J3 : Inv X pins τ G { s' with heap := h3 } := J.landed nb fl3.1 up3 os ag
      obtain ⟨o3, v3, e3, z3, d3⟩ := fl3.there
      have LT : PySem.W.Looks (model X.prog X.w) h3 (typeOf (.ref a)) cls := fun A Q E s k q => wpAny_typeOf_ref (k _ _ e3) (by rw [z3.1]; exact q)
      cases hc with
      | @one x c p hc =>
        obtain ⟨b1, d1, x1, y1, z1⟩ := PySem.W.exmAny_cons hy
        cases (show some false = some d1 from y1)
        have e1 : PySem.W.exmOne X.K cls c = some y := by rw [x1, z1, Bool.or_false]
        exact look fl3 up3 hc ((PySem.W.exm_one (M := model X.prog X.w) J3.kIn LT e1).here (q h3 fl3 up3))
      | @many es cs k p hn hl =>
        refine wpAny_Tuple (names_run (fun hc q => look fl3 up3 hc q) hn ⟨hl, ?_⟩)
        exact (exm_list (M := model X.prog X.w) (J3.kIn.keeps kp_push) (LT.keeps kp_push) (Heap.get?_push_size _ rfl) hy).here (q _ (fly_push fl3) (up_push up3))
    have go : ∀ {hs' : List ExceptHandler} {l' : List (List Value × Option Nat × Suite)}, HdsT X hs' l' → wMixT X.K Wo D l' cls d τ G → ∀ h3, HandSPX.FlyingZ Bs (X.env :: X.outer) a (Zc cls d) h3 → sI.heap.UpToSlots h3 → wpAny (model X.prog X.w) X.A (handleBy (.ref a) X.env hs') (SP X pins D) X.xe { s' with heap := h3 } := by
      intro hs' l' hk
      induction hk with
      | nil =>
        intro wo h3 fl3 up3
        have J3 : Inv X pins τ G { s' with heap := h3 } := J.landed nb fl3.1 up3 os ag
        refine wpAny_handleBy_nil ?_
        obtain ⟨k1, k2, k3, oe, vs, TB, oT, ts', he, hz, hdd, h1, hr⟩ := id fl3
        unfold PySem.passOn
        refine wpAny_bind (wpAny_field he hdd h1 ?_)
        rw [if_neg (show ¬ ((Value.ref TB == Value.none) = true) from by simp)]
        have last : wpAny (model X.prog X.w) X.A (setFlight (.ref a) X.env.frame) (fun _ s4 => wpAny (model X.prog X.w) X.A (throw (.ref a) : Sem Flow) (SP X pins D) X.xe s4) X.xe { s' with heap := h3 } := by
          rw [efr]
          refine HandSPX.setFlight_upZ fl3 fun h4 hh4 up4 => wpAny_throw (tk _ _ ⟨a, Bs, sI, pins, τ, G, cls, d, rfl, J, nb, up3.trans up4, .inr (.inr (by rw [est]; exact hh4)), na, os, ag, wo⟩)
        first
          | exact wpAny_bind (wpAny_pure (wpAny_bind last))
          | exact wpAny_bind last
      | @plain t c ts s0 ss p2 hs2 l2 hc sok r ih =>
        intro ⟨y, hy, yes, no⟩ h3 fl3 up3
        refine wpAny_handleBy_cons (codeAny_handlers_test ?_) (by intro q; cases q)
        refine test fl3 up3 hc hy fun h4 fl4 up4 => ?_
        cases y with
        | false =>
          show wpAny _ X.A (handleBy (.ref a) X.env hs2) _ _ _
          exact ih (no rfl) h4 fl4 up4
        | true =>
          refine codeAny_handlers_suite (HandSPX.lands_againZ fl4 fun h5 fl5 up5 => ?_)
          obtain ⟨o4, v4, e4, z4, d4⟩ := fl5.there
          have J4 : Inv X pins τ G { s' with heap := h5 } := J.landed nb fl5.1 (up4.trans up5) os ag
          obtain ⟨nL, nF⟩ := off fl5 e4 d4
          refine wpAny_mono ((sok a o4 cls d (X.pn ++ pins) (nB fl5) z4 ⟨_, d4⟩).run [] _ _ G _ (J4.suite e4 d4 na nL nF) (yes rfl a na)) (fun fl s6 z6 => ?_) (fun _ _ z => False.elim z)
          cases fl with
          | next => exact let ⟨_, _, S6, q6⟩ := z6; ⟨_, _, S6.unsuite ok, q6⟩
          | brk => exact let ⟨_, _, S6, q6⟩ := z6; ⟨_, _, S6.unsuite ok, q6⟩
          | cont => exact let ⟨_, _, S6, q6⟩ := z6; ⟨_, _, S6.unsuite ok, q6⟩
          | ret u => exact let ⟨_, _, _, S6, r6, q6⟩ := z6; ⟨_, _, _, S6.unsuite ok, r6, q6⟩
      | @named t n i c ts s0 ss p2 hs2 l2 hi hn hc sok r ih =>
        intro ⟨y, hy, yes, no⟩ h3 fl3 up3
        refine wpAny_handleBy_cons (codeAny_handlers_test ?_) (by intro q; cases q)
        refine test fl3 up3 hc hy fun h4 fl4 up4 => ?_
        cases y with
        | false =>
          show wpAny _ X.A (handleBy (.ref a) X.env hs2) _ _ _
          exact ih (no rfl) h4 fl4 up4
        | true =>
          refine codeAny_handlers_suite_as (HandSPX.lands_againZ fl4 fun h5 fl5 up5 => ?_)
          obtain ⟨o4, v4, e4, z4, d4⟩ := fl5.there
          have J4 : Inv X pins τ G { s' with heap := h5 } := J.landed nb fl5.1 (up4.trans up5) os ag
          obtain ⟨nL, nF⟩ := off fl5 e4 d4
          refine store_ok (X := X.suite a ((a, o4) :: (X.pn ++ pins))) (v := .ref a) (J4.suite e4 d4 na nL nF) nd hi (.inl hn) rfl (fun s5 S5 => ?_) (.inr hn)
          refine wpAny_mono ((sok a o4 cls d (X.pn ++ pins) (nB fl5) z4 ⟨_, d4⟩).run [] s5 _ G _ S5 (yes rfl a na)) (fun fl s6 z6 => ?_) (fun _ _ z => False.elim z)
          have off : ∀ {σ6 : L2.St} {H6 : Hp} {Q : Shared → Prop}, Inv (X.suite a ((a, o4) :: (X.pn ++ pins))) [] σ6 H6 s6 → (∀ s7, Inv X pins (σ6.set i none) H6 s7 → Q s7) →
              wpAny (model X.prog X.w) X.A (do bindName X.env n .none; unbindBehindTheSuite X.env n p2) (fun _ s7 => Q s7) X.xe s6 := fun {σ6 H6 Q} S6 q => gone_ok (S6.unsuite ok) nd hi hn q
          cases fl with
          | next => exact let ⟨_, _, S6, q6⟩ := z6; off S6 fun s7 J7 => ⟨_, _, J7, q6⟩
          | brk => exact let ⟨_, _, S6, q6⟩ := z6; off S6 fun s7 J7 => ⟨_, _, J7, q6⟩
          | cont => exact let ⟨_, _, S6, q6⟩ := z6; off S6 fun s7 J7 => ⟨_, _, J7, q6⟩
          | ret u => exact let ⟨_, _, _, S6, r6, q6⟩ := z6; off S6 fun s7 J7 => ⟨_, _, _, J7, r6, q6⟩
    exact go hh ww h3 fl3 (up.trans up3)
  · cases fl with
    | next => exact let ⟨_, _, J', q⟩ := z; wpAny_execs_nil ⟨_, _, J'.ofTry ok, q⟩
    | brk => exact let ⟨_, _, J', q⟩ := z; ⟨_, _, J'.ofTry ok, q⟩
    | cont => exact let ⟨_, _, J', q⟩ := z; ⟨_, _, J'.ofTry ok, q⟩
    | ret u => exact let ⟨_, _, _, J', r, q⟩ := z; ⟨_, _, _, J'.ofTry ok, r, q⟩
end
end Rc

namespace Rc
open PySem PySem.Spec PyProof.Rows L2
/-! ### a caught exception handed to a def -/
/-- the caught one, as it is told to a callee -/
abbrev TX (oe : Obj) (a : Addr) : HO := .frz oe (.own a)
section
variable {X : Cx} {pins pn : List (Addr × Obj)} {σ : L2.St} {H : Hp} {s s' : Shared} {a : Addr} {oe : Obj}
theorem tx_pin (I : Inv (X.suite a ((a, oe) :: pn)) pins σ H s) : s.heap.get? a = some oe ∧ H a = none ∧ a ≠ X.env.locals ∧ a ∉ X.fs := by
  obtain ⟨p1, p2, p3, p4, _⟩ := I.pin (a, oe) (List.mem_append_left _ List.mem_cons_self)
  exact ⟨p1, p2, p3, p4⟩
theorem tx_nofr (I : Inv (X.suite a ((a, oe) :: pn)) pins σ H s) : a ∉ frs X.stack := fun hm => by
  obtain ⟨_, _, p3, p4⟩ := tx_pin I
  rcases List.mem_cons.mp (I.stkSub a hm) with e | h
  · exact p3 e
  · exact p4 h
theorem tx_env (hB : X.base.get? a = none) (I : Inv (X.suite a ((a, oe) :: pn)) pins σ H s) : Env0 X.prog X.w X.K X.mg X.base (X.suite a ((a, oe) :: pn)).A X.stack s (upd H a (TX oe a)) := by
  obtain ⟨p1, p2, p3, p4⟩ := tx_pin I
  have e := I.env0
  refine ⟨e.frames, e.mod, fun b o q => ?_, e.bsz, e.funs, fun b hb => ?_, fun b o q => ?_, e.bare⟩
  · have ne : b ≠ a := fun z => by rw [z, hB] at q; cases q
    exact ⟨(e.bs b o q).1, by rw [upd_ne ne]; exact (e.bs b o q).2⟩
  · have ne : b ≠ a := fun z => tx_nofr I (z ▸ hb)
    rw [upd_ne ne]
    exact e.frf b hb
  · by_cases hb : b = a
    · subst hb
      rw [upd_same] at q
      cases q
      exact ⟨p1, oe, p1⟩
    · rw [upd_ne hb] at q
      exact (I.hok b o q).stay (fun _ _ _ z => z) (fun c z => by rw [upd_ne (ne_of_none z p2)]; exact z) fun c xs z => by rw [upd_ne (ne_of_none z p2)]; exact z
theorem tx_after {Q : VK} {u : Value} (I : Inv (X.suite a ((a, oe) :: pn)) pins σ H s) (h : CE X.stack X.prog X.w (upd H a (TX oe a)) s (fun v H2 => Q v (delH H2 a)) u s') : EP (X.suite a ((a, oe) :: pn)) pins σ Q u s' := by
  obtain ⟨p1, p2, p3, p4⟩ := tx_pin I
  have nfr := tx_nofr I
  obtain ⟨v, H', os, bare, un, hok, r, q⟩ := h
  have hF : H' a = some (TX oe a) := un.frzs a oe (.own a) upd_same
  have hA : s'.heap.get? a = some oe := (hok a _ hF).1
  have nA : ∀ {b : Addr} {o : HO}, H b = some o → b ≠ a := fun {b o} e z => by rw [z, p2] at e; cases e
  have un2 : Un (frs X.stack) [] H (delH H' a) s.heap s'.heap := by
    refine ⟨fun b o e n hb hx => ?_, fun b o e n hb hx => ?_, fun b o e n hx => ?_, un.there, fun b xs e => ?_, fun b o u e => ?_, fun b ps e => ?_⟩
    · by_cases z : b = a
      · subst z
        rw [p1] at e
        cases e
        exact hA
      · exact un.keep b o e (by rw [upd_ne z]; exact n) hb hx
    · have z : b ≠ a := fun z => nfr (z ▸ hb)
      exact un.slot b o e (by rw [upd_ne z]; exact n) hb hx
    · by_cases z : b = a
      · rw [z, delH_same]
      · rw [delH_ne z]
        exact un.free b o e (by rw [upd_ne z]; exact n) hx
    · rw [delH_ne (nA e)]
      exact un.tups b xs (by rw [upd_ne (nA e)]; exact e)
    · rw [delH_ne (nA e)]
      exact un.frzs b o u (by rw [upd_ne (nA e)]; exact e)
    · rw [delH_ne (nA e)]
      exact un.tbls b ps (by rw [upd_ne (nA e)]; exact e)
  have hok2 : HOk X.prog X.w (delH H' a) s'.heap := fun b o e => by
    have hb : b ≠ a := fun z => by
      rw [z, delH_same] at e
      cases e
    rw [delH_ne hb] at e
    refine (hok b o e).stay (fun _ _ _ z => z) (fun c z => ?_) fun c xs z => ?_
    · rw [delH_ne (fun y => by rw [y, hF] at z; cases z)]
      exact z
    · rw [delH_ne (fun y => by rw [y, hF] at z; cases z)]
      exact z
  obtain ⟨hh, g, d, t, os'⟩ := s'
  obtain rfl : os' = s.os := os
  exact ⟨v, delH H' a, I.call (h' := hh) (g' := g) (d' := d) (t' := t) (ch := []) un2 hok2 bare (fun b z => absurd z (by simp)), r, q⟩
def tCallX (sp : Sp) (a : Addr) (oe : Obj) (E : XK) (t : TA) : TE := fun σ H Q => t σ H fun vs H1 => sp vs (upd H1 a (TX oe a)) (fun v H2 => Q v (delH H2 a)) E
theorem pe_callX {k : Nat} {f : Addr} {fd : FuncData} {ps : List Str} {sp : Sp} {E : XK} {x : Str} {p pos : Pos} {e : Expr} {es : List Expr} {t : TA} (hB : X.base.get? a = none) (F : FnOk X.prog X.w X.K X.mg X.base CX0 k f fd ps sp) (hr : Room k (X.suite a ((a, oe) :: pn)).A) (hg : Gl X x) (hm : X.mg x = some (.ref f)) (hk : PySem.W.keepIn X.K (.ref f) = true) (hb : Binds X.K fd ps [])
    (ha : PA (X.suite a ((a, oe) :: pn)) (e :: es) t) (hdb : (x == ("__debug__" : Str)) = false := by decide) (he : starEach (e :: es) X.env = (false, eval e X.env) :: starEach es X.env := by rfl) (hpl : (backTo pos (starEach es X.env)).any (·.1) = false := by rfl) :
    PE (X.suite a ((a, oe) :: pn)) (.Call (.Name x p) (e :: es) [] pos) (tCallX sp a oe E t) := by
  refine ⟨fun pins s σ H Q I h => ?_⟩
  refine wpAny_Call_Name_kw (ld_glob I hg hm ?_ hdb)
  refine PySem.W.callWith_K (h₀ := X.base) I.ok.mod.kin hk (thn (ha.run pos pins s σ H _ I h) fun us s1 ⟨vs, H1, I1, r, q⟩ => ⟨I1.kIn, ?_⟩) he hpl
  have hl : us.length = ps.length := by rw [← r.length]; exact F.len _ _ _ _ q
  have b := hb s1 us I1.kIn (by rw [List.append_nil]; exact hl)
  rw [List.append_nil] at b
  refine wpAny_call (codeAny_mono (F.run (X.suite a ((a, oe) :: pn)).A X.stack s1 _ ⟨us, []⟩ us vs _ E hr (tx_env hB I1) b r q) fun r s' hq => ?_)
  cases r with
  | error e => exact False.elim hq
  | ok fl =>
    cases fl with
    | ret u => exact tx_after I1 hq
    | next => exact False.elim hq
    | brk => exact False.elim hq
    | cont => exact False.elim hq
theorem delH_upd {H : Hp} {a b : Addr} {o : HO} (h : b ≠ a) : delH (upd H b o) a = upd (delH H a) b o := by
  funext c
  by_cases e : c = a
  · subst e
    rw [delH_same, upd_ne (Ne.symm h), delH_same]
  · rw [delH_ne e]
    by_cases e2 : c = b
    · subst e2
      rw [upd_same, upd_same]
    · rw [upd_ne e2, upd_ne e2, delH_ne e]
end
/-! in the callee -/
/-- what stands at a is one of the class D with (or without) a dict -/
def IsX (H : Hp) (a D : Addr) : Prop := ∃ (oe : Obj) (d : Option Addr), H a = some (TX oe a) ∧ Zc (.ref D) d oe ∧ (∃ vs, oe.data = .fields vs) ∧ ∀ dd, d = some dd → ∃ fs, H dd = some (.xd fs)
section
variable {X : Cx}
theorem isx_at {pins : List (Addr × Obj)} {σ : L2.St} {H : Hp} {s : Shared} {a D : Addr} (I : Inv X pins σ H s) (h : IsX H a D) : ∃ oe od, PySem.W.InstAt s.heap a oe D od := by
  obtain ⟨oe, d, ha, hz, ⟨vs, hv⟩, hd⟩ := h
  have hget : s.heap.get? a = some oe := (I.hok a _ ha).1
  cases d with
  | none =>
    refine ⟨oe, none, ?_⟩
    obtain ⟨oc, od, oda, osl⟩ := oe
    obtain ⟨h1, h2⟩ := hz
    dsimp only at h1 h2 hv
    subst h1 h2 hv
    exact ⟨hget, rfl, rfl, trivial⟩
  | some dd =>
    obtain ⟨fs, hfs⟩ := hd dd rfl
    have hx : ObjOk X.prog X.w H s.heap dd (.xd fs) := I.hok dd _ hfs
    obtain ⟨mA, ⟨od, es, ep, hod, _⟩, _⟩ := hx
    obtain ⟨h1, h2⟩ := hz
    exact ⟨oe, some od, hget, h1, by unfold PySem.W.notCls; rw [hv] <;> rfl, by rw [h2]; exact hod⟩
/-- isinstance(e, c) -/
def rIsT (K : PySem.W.Frag) (a D : Addr) : List V → Hp → VK → Prop := fun xs H Q => ∃ (c : V) (cv : Value) (b : Bool), xs = [.ref a, c] ∧ (∀ u, RelV c u → u = cv) ∧ PySem.W.kitOne K (.ref D) cv = some b ∧ IsX H a D ∧ Q (.bl b) H
theorem call_isT {K : PySem.W.Frag} {a D : Addr} (eK : X.K = K) (C : ExcC K D) : CallR X (.builtin "isinstance") (rIsT K a D) := by
  subst eK
  intro pins s σ H xs us Q I r h
  obtain ⟨c, cv, b, rfl, hcv, e, hi, q⟩ := h
  cases r with
  | cons rx rr =>
    cases rr with
    | cons rt rr =>
      cases rr
      cases rx
      have ec := hcv _ rt
      subst ec
      obtain ⟨oe, od, J⟩ := isx_at I hi
      obtain ⟨cdD, hcD, _⟩ := PySem.W.any_some C.hd
      exact PySem.W.kia_one (PySem.W.kitx_exc (by rw [hcD]; rfl) C.hg C.hk C.hs C.ha C.hn C.ht C.hm) I.kIn J e (fun z => nomatch z) fun tk => ⟨.bl b, H, I.kept (t' := tk) fun _ _ z => z, rfl, q⟩
/-- e.f -/
def tXt (a C : Addr) (f : Str) (te : TE) : TE := fun σ H Q => te σ H fun x H1 => x = .ref a ∧ ∃ (oe : Obj) (dd : Addr) (fs : List (Str × V)) (v : V), H1 a = some (TX oe a) ∧ Zc (.ref C) (some dd) oe ∧ (∃ vs, oe.data = .fields vs) ∧ H1 dd = some (.xd fs) ∧ fs.lookup f = some v ∧ Q v H1
theorem pe_xt {a C : Addr} {e : Expr} {te : TE} {pos : Pos} {n : Str} (T : XfC X.K C) (hno : PySem.W.findIn X.K (.ref C) n = some none)
    (he : PE X e te) (hb : attributeBase e n X.env (eval e X.env) = eval e X.env := by rfl) : PE X (.Attribute e n pos) (tXt a C n te) := by
  refine ⟨fun pins s σ H Q I h => ?_⟩
  refine attr_of hb (thn (he.run pins s σ H _ I h) fun u s1 hh => ?_)
  obtain ⟨x, H1, I1, rx, ex, oe, dd, fs, v, ha, hz, ⟨vs, hd⟩, ea, l, q⟩ := hh
  subst ex
  obtain rfl : u = Value.ref a := rx
  have hget : s1.heap.get? a = some oe := (I1.hok a _ ha).1
  have hx : ObjOk X.prog X.w H1 s1.heap dd (.xd fs) := I1.hok dd _ ea
  obtain ⟨mA, hns, hr⟩ := hx
  obtain ⟨od, ho, hl⟩ := lookIn_ns hns
  obtain ⟨u, hu, ru⟩ := RelO.some_of (v := v) (o := mA n) (by rw [← l]; exact hr n)
  have J : PySem.W.InstAt s1.heap a oe C (some od) := ⟨hget, hz.1, by unfold PySem.W.notCls; rw [hd] <;> rfl, by rw [hz.2]; exact ho⟩
  exact HandSPX.exc_get I1.kIn J T.ga T.gg T.exC (PySem.W.findObj_own T.hdC hno rfl (by rw [hl, hu])) (handed_of ru) ⟨v, H1, I1.tok _, ru, q⟩
end
end Rc

namespace Rc
open PySem PySem.Spec PyProof.Rows L2
/-! ### list.count of flat things (texts, ints, truths, None) -/
section
variable {X : Cx}
def rCountF (K : PySem.W.Frag) : V → List V → Hp → VK → Prop := fun x xs H Q => ∃ (a : Addr) (ys : List V) (y : V), x = V.ref a ∧ xs = [y] ∧ SqL K H a ys ∧ flatV y = true ∧ ys.all flatV = true ∧ Q (.int (ys.countP (fun z => eqV z y) : Nat)) H
theorem count_same {y : V} : ∀ {ys : List V} {its : List Value}, Vals ys its → ys.all flatV = true → its.countP (eqU y) = ys.countP (fun z => eqV z y)
  | _, _, .nil, _ => rfl
  | z :: ys, u :: its, .cons r rr, f => by
    rw [List.all_cons, Bool.and_eq_true] at f
    rw [List.countP_cons, List.countP_cons, count_same rr f.2, eqU_of r f.1]
theorem mt_countF {K : PySem.W.Frag} (eK : X.K = K) : MtR X "list.count" (rCountF K) := by
  subst eK
  intro pins s σ H x xs v us Q I rx rxs h
  obtain ⟨a, ys, y, rfl, rfl, hs, fy, fys, q⟩ := h
  cases rx
  cases rxs with
  | cons ry rt =>
    rename_i uy ut
    cases rt
    obtain ⟨its, rv, ⟨⟨cls, dd, data, sl⟩, n, ho, hc, hdn, hd⟩, hlen⟩ := I.list hs
    simp only at hc hd
    subst hc hd
    refine call_meets PySem.F.slot_list_count ⟨_, ho, rfl⟩ PySem.F.entry_list_count (PySem.F.args_list_count_2 _ _)
      (SeqAt.list_countAt a its.toArray n dd sl uy (eqU y)) ⟨ho, fun u' hu' => mem_eqAt ry fy rv fys u' (by simpa using hu'), ?_⟩
    refine ⟨.int (ys.countP (fun z => eqV z y) : Nat), H, I.tok _, ⟨s.toks, ?_⟩, q⟩
    show Value.int ((its.toArray.toList.countP (eqU y) : Nat) : Int) s.toks = _
    rw [show its.toArray.toList = its from rfl, count_same rv fys]
end
end Rc

namespace Rc
open PySem PySem.Spec PyProof.Rows L2 RZ
def abcS : Str := "abcdefghijklmnopqrstuvwxyz"
theorem abcS_len : abcS.length = 26 := by decide +kernel
theorem abcS_abc : abcS.cps.toList = abc := letters_abc
theorem nodup_le {α : Type} [DecidableEq α] : ∀ (l zs : List α), l.Nodup → (∀ x ∈ l, x ∈ zs) → l.length ≤ zs.length
  | [], _, _, _ => Nat.zero_le _
  | a :: r, zs, nd, h => by
    have hn := List.nodup_cons.mp nd
    have ha : a ∈ zs := h a List.mem_cons_self
    have ih := nodup_le r (zs.erase a) hn.2 fun x hx => by
      have ne : x ≠ a := fun e => hn.1 (e ▸ hx)
      exact (List.mem_erase_of_ne ne).mpr (h x (List.mem_cons_of_mem _ hx))
    rw [List.length_erase_of_mem ha] at ih
    have : 0 < zs.length := List.length_pos_of_mem ha
    rw [List.length_cons]
    omega
def oneS (c : Nat) : Str := ⟨#[c]⟩
theorem oneS_name {c : Nat} (h : c ∈ abc) : nameT (oneS c) = true := by
  have e1 : (oneS c).length = 1 := rfl
  have e2 : (oneS c).cps.toList = [c] := rfl
  unfold nameT
  rw [e1, e2]
  simp [h]
theorem abc_nodup : (abc.map oneS).Nodup := by decide +kernel
/-- some letter is not among thirteen names -/
theorem free_letter {zs : List Str} (h : zs.length ≤ 13) : (abc.filter fun c => !decide (oneS c ∈ zs)) ≠ [] := fun e => by
  have hall : ∀ x ∈ abc.map oneS, x ∈ zs := fun x hx => by
    obtain ⟨c, hc, rfl⟩ := List.mem_map.mp hx
    by_cases hz : oneS c ∈ zs
    · exact hz
    · have hm : c ∈ abc.filter fun c => !decide (oneS c ∈ zs) := List.mem_filter.mpr ⟨hc, by simp [hz]⟩
      rw [e] at hm
      cases hm
  have := nodup_le _ _ abc_nodup hall
  rw [List.length_map] at this
  have e26 : abc.length = 26 := by decide
  omega
theorem nameT_of {z : Str} (h1 : 1 ≤ z.length) (h2 : z.length ≤ 8) (h3 : ∀ c ∈ z.cps.toList, c ∈ abc) : nameT z = true := by
  unfold nameT
  rw [decide_eq_true h1, decide_eq_true h2]
  simp only [Bool.true_and, List.all_eq_true, decide_eq_true_eq]
  exact h3
def wordsL : List Str := ["person", "persons", "pay", "clear", "settle", "put", "give", "yes"]
theorem words_ok : ∀ z ∈ wordsL, nameT z = true := by decide +kernel
section
variable {P : Program} {w : World} {K : PySem.W.Frag} {mg : Str → Option Value} {base : Heap}
/-! ### _law_name -/
abbrev sLNm : Stmt := topS 47
abbrev nLNm : List Str := ["_law_pot_here", "_law_used", "_law_letters", "_law_name_here", "_law_k", "_law_letter"]
theorem scLNm : FnScope nLNm ["_law_pot_here", "_law_used"] (defScope sLNm) := ⟨rfl, rfl, rfl, by decide +kernel, rfl, by decide +kernel, by decide +kernel⟩
def spLNm : Sp := fun vs H Q _ => ∃ p u zs, vs = [.ref p, .ref u] ∧ Pot H p ∧ u ≠ p ∧ H u = some (.lst (List.map V.str zs)) ∧ zs.length ≤ 13 ∧ ∀ z H', nameT z = true → z ∉ zs → Pot H' p → But p H H' → Q (.str z) H'
theorem ok_lnm {f fT : Addr} {fd fdT : FuncData} (F : Fun K "_law_name" "_law_name" sLNm f fd) (B : Blt mg) (B2 : Blt2 mg) (T : HasTake P w K mg base fT fdT) : FnOk P w K mg base CX0 2 f fd ["_law_pot_here", "_law_used"] spLNm := by
  refine F.ok scLNm (fun vs H Q E h => ?_) (fun cdv Ar outer s H vs Q E hr h => ?_)
  · obtain ⟨_, _, _, rfl, _⟩ := h
    rfl
  · obtain ⟨p, u, zs, rfl, hp, up, hu, hz, q⟩ := h
    refine ⟨_, pss_cons (ps_set (i := 2) scLNm.nd rfl (.inr rfl) pe_str)
      (pss_cons (ps_set (i := 3) scLNm.nd rfl (.inl rfl) (pe_join pe_str
        (pe_lc (own := [("_law_k", 4)]) (g := gName 4) (tt := tYes) rfl scLNm.nd (pi_range1 (by rfl) B2.range (pa_cons (pe_op op_add pe_int (pe_call T.ok hr (by rfl) T.g T.kp T.b .nil pass0 (pa_cons (pv 0) (pa_cons pe_int pa_nil)))) pa_nil))
          (blkOk_by (N := nLNm) (sc := defScope sLNm) (own := [("_law_k", 4)]) (by decide +kernel))
          (fun _ _ _ _ _ => pg_name (i := 4) scLNm.nd rfl (.inl rfl)) (fun _ _ _ _ _ => pts_nil)
          (fun _ _ _ _ _ => pe_ix ix_str (pv 2) (pe_call T.ok hr (by rfl) T.g T.kp T.b .nil pass0 (pa_cons (pv 0) (pa_cons pe_int pa_nil))) (fun _ _ => rfl)))))
      (C8.pss_cut (ps_if (pt_cmpR op_eq (pe_call T.ok hr (by rfl) T.g T.kp T.b .nil pass0 (pa_cons (pv 0) (pa_cons pe_int pa_nil))) pe_int (nomark _))
        (pss_one (ps_set (i := 3) scLNm.nd rfl (.inl rfl) (pe_ix ix_list (pe_lst (pa_cons pe_str (pa_cons pe_str (pa_cons pe_str (pa_cons pe_str (pa_cons pe_str (pa_cons pe_str (pa_cons pe_str (pa_cons pe_str pa_nil)))))))))
          (pe_call T.ok hr (by rfl) T.g T.kp T.b .nil pass0 (pa_cons (pv 0) (pa_cons pe_int pa_nil))) (fun _ _ => rfl)))) pss_nil)
      (pss_cons (ps_if (pt_cmpR op_in_seq (pv 3) (pv 1) (by rfl))
        (pss_one (ps_ret (pe_ix ix_list (pe_lc (own := [("_law_letter", 5)]) (g := gName 5) (tt := tTest (tOp (rIn K true) (tVar 5) (tVar 1))) (te := tVar 5) rfl scLNm.nd (pi_str (pv 2)) (blkOk_by (N := nLNm) (sc := defScope sLNm) (own := [("_law_letter", 5)]) (by decide +kernel))
          (fun _ _ _ _ _ => pg_name (i := 5) scLNm.nd rfl (.inl rfl)) (fun _ _ _ _ _ => pts_one (pt_cmpR op_notIn_seq (pv 5) (pv 1) (by rfl))) (fun _ _ _ _ _ => pv 5)) pe_int (fun _ _ => rfl)))) pss_nil)
      (pss_one (ps_ret (pv 3)))))), ?_⟩
    refine ⟨⟨_, rfl⟩, .ref p, rfl, p, 8, rfl, hp, litM _ (by decide) (by decide), fun d H1 d0 d1 hp1 hb1 => ⟨_, _, rfl, rfl, 1 + d, rfl, by omega, by omega, fun D nD => ?_⟩⟩
    have nDp : D ≠ p := by
      obtain ⟨x, y, e, _⟩ := hp1
      exact (ne_of_none e nD).symm
    refine lc_it walk_range (fun i H' => ∃ cs : List Nat, cs.length = i ∧ (∀ c ∈ cs, c ∈ abc) ∧ H' D = some (.lst (cs.map fun c => .str ⟨#[c]⟩)) ∧ Pot H' p ∧ But p H H')
      ⟨[], rfl, fun c hc => absurd hc List.not_mem_nil, upd_same, hp1.new nD, hb1.trans (But.new nD)⟩ (fun _ _ _ _ => trivial) (fun i x H2 H3 hi hP hY => ?_) (fun H2 hP => ?_)
    · obtain ⟨rfl, rfl⟩ := hY
      obtain ⟨cs, lc, hc, hD, hp2, hb2⟩ := hP
      refine ⟨rfl, .str abcS, rfl, .ref p, rfl, p, 26, rfl, hp2, litM _ (by decide) (by decide), fun e H4 e0 e1 hp4 hb4 => ?_⟩
      have el : abcS.cps.toList.length = 26 := abcS_len
      obtain ⟨c, p1, p2⟩ := pick (xs := abcS.cps.toList) e0 (by rw [el]; exact e1)
      refine ⟨abcS, e, c, rfl, rfl, small_line (by rw [abcS_len]; decide), p1, _, hb4 _ _ nDp hD, ?_, cs ++ [c], by rw [List.length_append, lc]; rfl, fun k hk => ?_, ?_, ?_, fun b o n eb => ?_⟩
      · rw [List.length_map, lc]
        exact small1000 (by omega)
      · rcases List.mem_append.mp hk with z | z
        · exact hc k z
        · rw [List.mem_singleton.mp z, ← abcS_abc]
          exact p2
      · rw [upd_same, List.map_append]
        rfl
      · obtain ⟨x, y, z, r⟩ := hp4
        exact ⟨x, y, by rw [upd_ne nDp.symm]; exact z, r⟩
      · have nb : b ≠ D := ne_of_none (hb1 b o n eb) nD
        rw [upd_ne nb]
        exact hb4 _ _ n (hb2 _ _ n eb)
    · obtain ⟨cs, lc, hc, hD, hp2, hb2⟩ := hP
      have ej := join_ones cs
      have nm : nameT (Txt.join "" (cs.map fun c => (⟨#[c]⟩ : Str))) = true := by
        have el : (Txt.join "" (cs.map fun c => (⟨#[c]⟩ : Str))).length = cs.length := by
          show (Txt.join "" (cs.map fun c => (⟨#[c]⟩ : Str))).cps.size = cs.length
          rw [← Array.length_toList, ej]
        refine nameT_of (by rw [el]; omega) (by rw [el]; omega) (by rw [ej]; exact hc)
      refine ⟨"", D, cs.map fun c => ⟨#[c]⟩, rfl, rfl, .inl (.inl (.inl (by rw [hD, List.map_map]; rfl))), ?_, ?_⟩
      · rw [lens_ones]
        show cs.length + _ * 0 ≤ _
        omega
      generalize Txt.join "" (cs.map fun c => (⟨#[c]⟩ : Str)) = z at nm
      refine ⟨fun σ' H' => ∃ z' y4 y5, σ' = [some (.ref p), some (.ref u), some (.str abcS), some (.str z'), y4, y5] ∧ nameT z' = true ∧ Pot H' p ∧ But p H H', ?_, ?_⟩
      · refine ⟨.ref p, rfl, p, 8, rfl, hp2, litM _ (by decide) (by decide), fun k H3 k0 k1 hp3 hb3 => ⟨rfl, _, rfl, ite2 (fun e => ?_) (fun e => ?_)⟩⟩
        · refine ⟨by show 8 ≤ sizeLine; decide, fun l nl => ?_⟩
          have nlp : l ≠ p := by
            obtain ⟨x, y, e, _⟩ := hp3
            exact (ne_of_none e nl).symm
          refine ⟨.ref p, rfl, p, 8, rfl, hp3.new nl, litM _ (by decide) (by decide), fun e H5 e0 e1 hp5 hb5 => ?_⟩
          obtain ⟨v, p1, p2⟩ := pick (xs := wordsL.map V.str) e0 e1
          refine ⟨l, _, e, v, rfl, rfl, .inl (.inl (hb5 _ _ nlp upd_same)), p1, ?_⟩
          obtain ⟨z', hz', rfl⟩ := List.mem_map.mp p2
          exact ⟨z', _, _, rfl, words_ok z' hz', hp5, hb2.trans (hb3.trans ((But.new nl).trans hb5))⟩
        · exact ⟨z, _, _, rfl, nm, hp3, hb2.trans hb3⟩
      · rintro σ' H' ⟨z', y4, y5, rfl, nm', hp', hb'⟩
        have hu' := hb' _ _ up hu
        refine ⟨.str z', rfl, .ref u, rfl, u, _, rfl, .inl (.inl (.inl hu')), rfl, flat_strs _, _, rfl, ?_⟩
        show if inV (.str z') (zs.map V.str) = true then _ else _
        rw [inV_strs]
        refine ite2 (fun e => ?_) (fun e => ?_)
        · refine ⟨.str abcS, rfl, abcS, rfl, fun D' nD' => ?_⟩
          refine lc_it walk_str (fun i H'' => Same H' H'' ∧ H'' D' = some (.lst (((abc.take i).filter fun c => !decide (oneS c ∈ zs)).map fun c => .str (oneS c)))) ⟨same_upd nD', upd_same⟩ (fun _ _ _ _ => trivial) (fun i x H3' H3 hi hP hY => ?_) (fun H3 hP => ?_)
          · obtain ⟨rfl, c, hc', rfl⟩ := hY
            have hc2 : abc[i]? = some c := by
              rw [← abcS_abc, Array.getElem?_toList]
              exact hc'
            refine ⟨rfl, _, rfl, .ref u, rfl, u, _, rfl, .inl (.inl (.inl (hP.1 _ _ hu'))), rfl, flat_strs _, _, rfl, ?_⟩
            have tk : abc.take (i + 1) = abc.take i ++ [c] := by
              rw [List.take_add_one, hc2]
              rfl
            show if (!inV (.str (oneS c)) (zs.map V.str)) = true then _ else _
            rw [inV_strs]
            refine ite2 (fun e' => ?_) (fun e' => ?_)
            · refine ⟨_, rfl, _, hP.2, ?_, fun b o eb => ?_, ?_⟩
              · rw [List.length_map]
                have h1 := List.length_filter_le (fun c => !decide (oneS c ∈ zs)) (abc.take i)
                have h2 : (abc.take i).length ≤ 26 := by
                  rw [List.length_take]
                  exact Nat.min_le_right _ _
                exact small1000 (by omega)
              · rw [upd_ne (ne_of_none eb nD')]
                exact hP.1 b o eb
              · rw [upd_same, tk, List.filter_append, List.map_append]
                simp only [List.filter_cons, e', if_true, List.filter_nil, List.map_cons, List.map_nil]
                rfl
            · refine ⟨hP.1, ?_⟩
              rw [hP.2, tk, List.filter_append]
              simp only [List.filter_cons, e', List.filter_nil, Bool.false_eq_true, if_false, List.append_nil]
          · have esz : abc.take abcS.cps.size = abc := List.take_of_length_le (by decide +kernel)
            rw [esz] at hP
            have ne := free_letter hz
            cases hl : (abc.filter fun c => !decide (oneS c ∈ zs)) with
            | nil => exact absurd hl ne
            | cons c r =>
              have hm : c ∈ abc.filter fun c => !decide (oneS c ∈ zs) := by
                rw [hl]
                exact List.mem_cons_self
              obtain ⟨m1, m2⟩ := List.mem_filter.mp hm
              rw [hl] at hP
              refine ⟨D', _, 0, .str (oneS c), rfl, rfl, .inl (.inl hP.2), atI_nat (j := 0) rfl, ?_⟩
              exact q _ _ (oneS_name m1) (by simpa using m2) (hp'.same hP.1) (hb'.trans (same_but hP.1))
        · exact ⟨_, rfl, q z' H' nm' (fun c => e (decide_eq_true c)) hp' hb'⟩
end
end Rc

namespace Rc
open PySem PySem.Spec PyProof.Rows L2 RZ
section
variable {P : Program} {w : World} {K : PySem.W.Frag} {mg : Str → Option Value} {base : Heap}
/-! ### _law_names -/
abbrev sLNms : Stmt := topS 48
theorem scLNms : FnScope ["_law_pot_here", "_law_many", "_law_found", "_law_k"] ["_law_pot_here", "_law_many"] (defScope sLNms) := ⟨rfl, rfl, rfl, by decide +kernel, rfl, by decide +kernel, by decide +kernel⟩
def spLNms : Sp := fun vs H Q _ => ∃ (p : Addr) (m : Nat), vs = [.ref p, .int (m : Nat)] ∧ Pot H p ∧ m ≤ 13 ∧ ∀ r zs H', H r = none → r ≠ p → H' r = some (.lst (List.map V.str zs)) → zs.length = m → zs.Nodup → (∀ z ∈ zs, nameT z = true) → Pot H' p → But p H H' → Q (.ref r) H'
theorem ok_lnms {f fN : Addr} {fd fdN : FuncData} (F : Fun K "_law_names" "_law_names" sLNms f fd) (B2 : Blt2 mg) (N : Has P w K mg base 2 "_law_name" ["_law_pot_here", "_law_used"] spLNm fN fdN) :
    FnOk P w K mg base CX0 3 f fd ["_law_pot_here", "_law_many"] spLNms := by
  refine F.ok scLNms (fun vs H Q E h => ?_) (fun cdv Ar outer s H vs Q E hr h => ?_)
  · obtain ⟨_, _, rfl, _⟩ := h
    rfl
  · obtain ⟨p, m, rfl, hp, hm, q⟩ := h
    refine ⟨_, pss_cons (ps_set (i := 2) scLNms.nd rfl (.inl rfl) (pe_lst pa_nil))
      (pss_cons (ps_for PassesOwn.never rfl (pi_range1 (by rfl) B2.range (pa_cons (pv 1) pa_nil)) (pg_name (i := 3) scLNms.nd rfl (.inl rfl))
        (pss_one (ps_expr (pe_bm PySem.F.plainAttrs_list PySem.F.slot_list_append PySem.F.type_list_append mt_append (pv 2) (pa_cons (pe_call N.ok hr (by rfl) N.g N.kp N.b .nil pass0 (pa_cons (pv 0) (pa_cons (pv 2) pa_nil))) pa_nil)))))
      (pss_one (ps_ret (pv 2)))), ?_⟩
    refine ⟨Nat.zero_le _, fun r nr => ?_⟩
    have rp : r ≠ p := by
      obtain ⟨x, y, e, _⟩ := hp
      exact (ne_of_none e nr).symm
    refine ⟨_, rfl, _, rfl, by omega, by omega, ?_⟩
    refine for_it walk_range (fun i σ H' => ∃ zs y3, σ = [some (.ref p), some (.int (m : Nat)), some (.ref r), y3] ∧ H' r = some (.lst (List.map V.str zs)) ∧ zs.length = i ∧ zs.Nodup ∧ (∀ z ∈ zs, nameT z = true) ∧ Pot H' p ∧ But p H H')
      ⟨[], _, rfl, upd_same, rfl, List.nodup_nil, fun z hz => absurd hz List.not_mem_nil, hp.new nr, But.new nr⟩ (fun _ _ _ _ _ => trivial) (fun i x σ H1' H1 hi hP hY => ?_) (fun σ H1 hP => ?_)
    · obtain ⟨rfl, rfl⟩ := hY
      obtain ⟨zs, y3, rfl, hr1, lz, nd, nm, hp1, hb1⟩ := hP
      have hi' : i < m := by simpa using hi
      refine ⟨.ref r, rfl, .inl ⟨rfl, _, .inl (.inl hr1)⟩, .ref p, rfl, .ref r, rfl, p, r, zs, rfl, hp1, rp, hr1, by omega, fun z H2 nz nin hp2 hb2 => ?_⟩
      refine ⟨r, _, _, rfl, rfl, hb2 _ _ rp hr1, by rw [List.length_map]; exact small1000 (by omega), ?_⟩
      refine ⟨zs ++ [z], _, rfl, by rw [upd_same, List.map_append]; rfl, by rw [List.length_append, lz]; rfl, ?_, fun y hy => ?_, ?_, fun b o n e => ?_⟩
      · rw [List.nodup_append]
        refine ⟨nd, by simp, fun a ha b hb e => ?_⟩
        rw [List.mem_singleton.mp hb] at e
        exact nin (e ▸ ha)
      · rcases List.mem_append.mp hy with h | h
        · exact nm y h
        · rw [List.mem_singleton.mp h]
          exact nz
      · obtain ⟨x, y, e, rr⟩ := hp2
        exact ⟨x, y, by rw [upd_ne rp.symm]; exact e, rr⟩
      · rw [upd_ne (ne_of_none e nr)]
        exact hb2 _ _ n (hb1 _ _ n e)
    · obtain ⟨zs, y3, rfl, hr1, lz, nd, nm, hp1, hb1⟩ := hP
      exact ⟨.ref r, rfl, q r zs H1 nr rp hr1 (by simpa using lz) nd nm hp1 hb1⟩
end
end Rc

namespace Rc
open PySem PySem.Spec PyProof.Rows L2 RZ
section
variable {P : Program} {w : World} {K : PySem.W.Frag} {mg : Str → Option Value} {base : Heap}
/-! ### _law_amount -/
abbrev sLAm : Stmt := topS 50
theorem scLAm : FnScope ["_law_pot_here", "_law_size", "_law_kind"] ["_law_pot_here", "_law_size"] (defScope sLAm) := ⟨rfl, rfl, rfl, by decide +kernel, rfl, by decide +kernel, by decide +kernel⟩
def Amt (n : Int) : Prop := 1 ≤ n ∧ n ≤ 10 ^ 58
def spLAm : Sp := fun vs H Q _ => ∃ (p : Addr) (s : Int), vs = [.ref p, .int s] ∧ (s = 0 ∨ s = 1) ∧ Pot H p ∧ ∀ n H', Amt n → Pot H' p → But p H H' → Q (.int n) H'
theorem ok_lam {f fT : Addr} {fd fdT : FuncData} (F : Fun K "_law_amount" "_law_amount" sLAm f fd) (T : HasTake P w K mg base fT fdT) : FnOk P w K mg base CX0 2 f fd ["_law_pot_here", "_law_size"] spLAm := by
  refine F.ok scLAm (fun vs H Q E h => ?_) (fun cdv Ar outer s H vs Q E hr h => ?_)
  · obtain ⟨_, _, rfl, _⟩ := h
    rfl
  · obtain ⟨p, sz, rfl, hsz, hp, q⟩ := h
    refine ⟨_, pss_cons (ps_set (i := 2) scLAm.nd rfl (.inl rfl) (pe_call T.ok hr (by rfl) T.g T.kp T.b .nil pass0 (pa_cons (pv 0) (pa_cons pe_int pa_nil))))
      (pss_one (ps_ret (pe_op op_add pe_int (pe_call T.ok hr (by rfl) T.g T.kp T.b .nil pass0 (pa_cons (pv 0) (pa_cons
        (pe_ix ix_list (pe_ix ix_list (pe_lst (pa_cons (pe_lst (pa_cons pe_int (pa_cons pe_int (pa_cons pe_int (pa_cons pe_int pa_nil))))) (pa_cons (pe_lst (pa_cons pe_int (pa_cons pe_int (pa_cons pe_int (pa_cons (pe_op op_pow pe_int pe_int) pa_nil))))) pa_nil))) (pv 1) (fun _ _ => rfl)) (pv 2) (fun _ _ => rfl)) pa_nil)))))), ?_⟩
    refine ⟨.ref p, rfl, p, 4, rfl, hp, litM _ (by decide) (by decide), fun d H1 d0 d1 hp1 hb1 => ?_⟩
    refine ⟨.ref p, rfl, by show 4 ≤ sizeLine; decide, fun l1 n1 => ⟨_, _, rfl, rfl, ⟨by decide, by decide, by decide⟩, by show 4 ≤ sizeLine; decide, fun l2 n2 => ⟨by show 2 ≤ sizeLine; decide, fun l3 n3 => ?_⟩⟩⟩
    have s3 := (same_upd (o := .lst [V.int 1, V.int 3, V.int 9, V.int 9]) n1).trans ((same_upd (o := .lst [V.int 1, V.int 9, V.int 1000, V.int (10 ^ (58 : Int).toNat)]) n2).trans (same_upd (o := .lst [V.ref l1, V.ref l2]) n3))
    have fin : ∀ m : Int, 0 < m → m ≤ 10 ^ 58 → ∃ (p' : Addr) (m' : Int), [V.ref p, V.int m] = [.ref p', .int m'] ∧ Pot (upd (upd (upd H1 l1 (.lst [V.int 1, V.int 3, V.int 9, V.int 9])) l2 (.lst [V.int 1, V.int 9, V.int 1000, V.int (10 ^ (58 : Int).toNat)])) l3 (.lst [V.ref l1, V.ref l2])) p' ∧ LitM m' ∧
        ∀ t H4, 0 ≤ t → t < m' → Pot H4 p' → But p' (upd (upd (upd H1 l1 (.lst [V.int 1, V.int 3, V.int 9, V.int 9])) l2 (.lst [V.int 1, V.int 9, V.int 1000, V.int (10 ^ (58 : Int).toNat)])) l3 (.lst [V.ref l1, V.ref l2])) H4 → ∃ x y : Int, V.int 1 = .int x ∧ V.int t = .int y ∧ Q (.int (x + y)) H4 := fun m m0 m1 => by
      have m2 : (10 : Int) ^ 58 < 2 ^ 250 := by decide
      exact ⟨p, m, rfl, hp1.same s3, litM _ m0 (by omega), fun t H4 t0 t1 hp4 hb4 => ⟨1, t, rfl, rfl, q _ _ ⟨by omega, by omega⟩ hp4 (hb1.trans ((same_but s3).trans hb4))⟩⟩
    rcases hsz with rfl | rfl
    · obtain ⟨c, e1, e2⟩ := pick (xs := [V.int 1, V.int 3, V.int 9, V.int 9]) d0 d1
      refine ⟨.int 0, rfl, l3, _, 0, .ref l1, rfl, rfl, .inl (.inl upd_same), rfl, .int d, rfl, l1, _, d, c, rfl, rfl, .inl (.inl (same_upd n3 _ _ (same_upd n2 _ _ upd_same))), e1, ?_⟩
      have ec : ∃ m : Int, c = .int m ∧ 0 < m ∧ m ≤ 10 ^ 58 := by
        simp only [List.mem_cons, List.not_mem_nil, or_false] at e2
        rcases e2 with e | e | e | e <;> exact ⟨_, e, by decide, by decide⟩
      obtain ⟨m, rfl, m0, m1⟩ := ec
      exact fin m m0 m1
    · obtain ⟨c, e1, e2⟩ := pick (xs := [V.int 1, V.int 9, V.int 1000, V.int (10 ^ (58 : Int).toNat)]) d0 d1
      refine ⟨.int 1, rfl, l3, _, 1, .ref l2, rfl, rfl, .inl (.inl upd_same), rfl, .int d, rfl, l2, _, d, c, rfl, rfl, .inl (.inl (same_upd n3 _ _ upd_same)), e1, ?_⟩
      have ec : ∃ m : Int, c = .int m ∧ 0 < m ∧ m ≤ 10 ^ 58 := by
        simp only [List.mem_cons, List.not_mem_nil, or_false] at e2
        rcases e2 with e | e | e | e <;> exact ⟨_, e, by decide, by decide⟩
      obtain ⟨m, rfl, m0, m1⟩ := ec
      exact fin m m0 m1
end
end Rc

namespace Rc
open PySem PySem.Spec PyProof.Rows L2 RZ
/-! ### dicts by names -/
def dct (zs : List Str) (vs : List V) : List (Key × V) := (zs.zip vs).map fun p => (Sum.inr p.1, p.2)
theorem dct_cons (z : Str) (zs : List Str) (v : V) (vs : List V) : dct (z :: zs) (v :: vs) = (Sum.inr z, v) :: dct zs vs := rfl
theorem dct_mem {zs : List Str} {vs : List V} {kv : Key × V} (h : kv ∈ dct zs vs) : ∃ z ∈ zs, kv.1 = Sum.inr z := by
  unfold dct at h
  obtain ⟨p, hp, rfl⟩ := List.mem_map.mp h
  exact ⟨p.1, (List.of_mem_zip hp).1, rfl⟩
theorem dct_val : ∀ {zs : List Str} {vs : List V} {j : Nat} {z : Str} {v : V}, zs.Nodup → zs[j]? = some z → vs[j]? = some v → valV (dct zs vs) (Sum.inr z : Key) = some v
  | [], _, _, _, _, _, h, _ => by simp at h
  | _ :: _, [], _, _, _, _, _, h => by simp at h
  | y :: zs, u :: vs, 0, z, v, nd, h1, h2 => by
    simp at h1 h2
    subst h1 h2
    rw [dct_cons]
    exact valV_pos rfl
  | y :: zs, u :: vs, j + 1, z, v, nd, h1, h2 => by
    have hn := List.nodup_cons.mp nd
    have h1' : zs[j]? = some z := by simpa using h1
    rw [dct_cons, valV_neg (fun e => hn.1 (by
      have e' : y = z := Sum.inr.inj e
      rw [e']
      exact List.mem_of_getElem? h1'))]
    exact dct_val hn.2 h1' (by simpa using h2)
theorem dct_nokey {zs : List Str} {vs : List V} {z : Str} (h : z ∉ zs) : ∀ kv ∈ dct zs vs, ¬ kv.1 = (Sum.inr z : Key) := fun kv hk e => by
  obtain ⟨y, hy, e'⟩ := dct_mem hk
  rw [e'] at e
  exact h (Sum.inr.inj e ▸ hy)
theorem map_nokey {kvs : List (Key × V)} {k : Key} {v : V} (h : ∀ kv ∈ kvs, ¬ kv.1 = k) : kvs.map (fun kv => if kv.1 = k then (kv.1, v) else kv) = kvs := by
  induction kvs with
  | nil => rfl
  | cons a r ih =>
    rw [List.map_cons, if_neg (h a List.mem_cons_self), ih fun kv hk => h kv (List.mem_cons_of_mem _ hk)]
theorem dct_map : ∀ {zs : List Str} {vs : List V} {j : Nat} {z : Str} {v : V}, zs.Nodup → zs[j]? = some z → (dct zs vs).map (fun kv => if kv.1 = (Sum.inr z : Key) then (kv.1, v) else kv) = dct zs (vs.set j v)
  | [], _, _, _, _, _, h => by simp at h
  | y :: zs, [], _, _, _, _, _ => by simp [dct]
  | y :: zs, u :: vs, 0, z, v, nd, h1 => by
    simp at h1
    subst h1
    have hn := List.nodup_cons.mp nd
    rw [List.set_cons_zero, dct_cons, dct_cons, List.map_cons, if_pos rfl, map_nokey (dct_nokey hn.1)]
  | y :: zs, u :: vs, j + 1, z, v, nd, h1 => by
    have hn := List.nodup_cons.mp nd
    have h1' : zs[j]? = some z := by simpa using h1
    have ne : ¬ (Sum.inr y : Key) = Sum.inr z := fun e => hn.1 (by
      have e' : y = z := Sum.inr.inj e
      rw [e']
      exact List.mem_of_getElem? h1')
    rw [List.set_cons_succ, dct_cons, dct_cons, List.map_cons, if_neg ne, dct_map hn.2 h1']
theorem dct_put {zs : List Str} {vs : List V} {j : Nat} {z : Str} {v : V} (nd : zs.Nodup) (h1 : zs[j]? = some z) (h2 : j < vs.length) : putK (dct zs vs) (Sum.inr z) v = dct zs (vs.set j v) := by
  unfold putK
  have hv := dct_val nd h1 (List.getElem?_eq_getElem h2)
  rw [valV_any, hv, if_pos (show (some vs[j]).isSome = true from rfl)]
  exact dct_map nd h1
theorem put_new {kvs : List (Key × V)} {k : Key} {v : V} (h : ∀ kv ∈ kvs, ¬ kv.1 = k) : putK kvs k v = kvs ++ [(k, v)] := by
  unfold putK
  rw [if_neg]
  rw [List.any_eq_true]
  rintro ⟨kv, hk, e⟩
  exact h kv hk (of_decide_eq_true e)
theorem merge_dct : ∀ (zs : List Str) (vs : List V) (acc : List (Key × V)), zs.Nodup → (∀ kv ∈ acc, ∀ z ∈ zs, ¬ kv.1 = (Sum.inr z : Key)) → mergeK acc (dct zs vs) = acc ++ dct zs vs
  | [], _, acc, _, _ => by simp [dct, mergeK]
  | _ :: _, [], acc, _, _ => by simp [dct, mergeK]
  | z :: zs, v :: vs, acc, nd, h => by
    have hn := List.nodup_cons.mp nd
    rw [dct_cons]
    show mergeK (putK acc (Sum.inr z) v) (dct zs vs) = acc ++ (Sum.inr z, v) :: dct zs vs
    rw [put_new fun kv hk => h kv hk z List.mem_cons_self, merge_dct zs vs _ hn.2 fun kv hk y hy => ?_]
    · rw [List.append_assoc]
      rfl
    · rcases List.mem_append.mp hk with hk | hk
      · exact h kv hk y (List.mem_cons_of_mem _ hy)
      · rw [List.mem_singleton.mp hk]
        intro e
        exact hn.1 (Sum.inr.inj e ▸ hy)
theorem merge_new {zs : List Str} {vs : List V} (nd : zs.Nodup) : mergeK [] (dct zs vs) = dct zs vs := by
  rw [merge_dct zs vs [] nd fun kv hk => absurd hk List.not_mem_nil]
  rfl
theorem dct_len {zs : List Str} {vs : List V} (h : vs.length = zs.length) : (dct zs vs).length = zs.length := by
  unfold dct
  rw [List.length_map, List.length_zip, h, Nat.min_self]
/-! ### the law's model -/
structure MdA where
  m : Addr
  lo : Addr
  dg : Addr
  df : Addr
  dn : Addr
  rs : List Addr
structure Md where
  given : List Int
  fallen : List Int
  notes : List (List (Str × Int))
def MdA.Has (a : MdA) (b : Addr) : Prop := b = a.m ∨ b = a.lo ∨ b = a.dg ∨ b = a.df ∨ b = a.dn ∨ b ∈ a.rs
def keysM : List Str := ["order", "given", "fallen", "notes"]
theorem keysM_nd : keysM.Nodup := by decide +kernel
def MdA.main (a : MdA) : List (Key × V) := dct keysM [.ref a.lo, .ref a.dg, .ref a.df, .ref a.dn]
structure ModelAt (K : PySem.W.Frag) (H : Hp) (zs : List Str) (a : MdA) (D : Md) : Prop where
  hm : H a.m = some (.dK a.main)
  ho : H a.lo = some (.lst (zs.map V.str))
  hg : H a.dg = some (.dK (dct zs (D.given.map V.int)))
  hf : H a.df = some (.dK (dct zs (D.fallen.map V.int)))
  hn : H a.dn = some (.dK (dct zs (a.rs.map V.ref)))
  rows : ∀ (i : Nat) (r : Addr) (l : List (Str × Int)), a.rs[i]? = some r → D.notes[i]? = some l → ∃ xs, H r = some (.lst xs) ∧ DtAll K H xs (notesD l)
  nd : a.rs.Nodup
  olo : a.lo ∉ a.rs
  ogf : a.dg ≠ a.df
  ogn : a.dg ≠ a.dn
  ogm : a.dg ≠ a.m
  omn : a.m ≠ a.dn
  zn : zs.Nodup
  lg : D.given.length = zs.length
  lf : D.fallen.length = zs.length
  ln : D.notes.length = zs.length
  lr : a.rs.length = zs.length
theorem ModelAt.keep {K : PySem.W.Frag} {H H' : Hp} {zs : List Str} {a : MdA} {D : Md} (h : ModelAt K H zs a D) (k : ∀ b o, a.Has b → H b = some o → H' b = some o) (kt : KT H H') : ModelAt K H' zs a D where
  hm := k _ _ (.inl rfl) h.hm
  ho := k _ _ (.inr (.inl rfl)) h.ho
  hg := k _ _ (.inr (.inr (.inl rfl))) h.hg
  hf := k _ _ (.inr (.inr (.inr (.inl rfl)))) h.hf
  hn := k _ _ (.inr (.inr (.inr (.inr (.inl rfl))))) h.hn
  rows := fun i r l e1 e2 => by
    obtain ⟨xs, e, d⟩ := h.rows i r l e1 e2
    exact ⟨xs, k _ _ (.inr (.inr (.inr (.inr (.inr (List.mem_of_getElem? e1)))))) e, DtAll.keepT kt _ (tup_notes l) d⟩
  nd := h.nd
  olo := h.olo
  ogf := h.ogf
  ogn := h.ogn
  ogm := h.ogm
  omn := h.omn
  zn := h.zn
  lg := h.lg
  lf := h.lf
  ln := h.ln
  lr := h.lr
theorem model_same {K : PySem.W.Frag} {H H' : Hp} {zs : List Str} {a : MdA} {D : Md} (h : ModelAt K H zs a D) (s : Same H H') : ModelAt K H' zs a D := h.keep (fun b o _ e => s b o e) (kt_same s)
theorem But.kt {p : Addr} {H H' : Hp} (b : But p H H') (hp : Pot H p) : KT H H' := fun c o e t => b c o (fun z => by
  obtain ⟨x, y, e', _⟩ := hp
  rw [z, e'] at e
  cases e
  exact t) e
theorem model_but {K : PySem.W.Frag} {H H' : Hp} {zs : List Str} {a : MdA} {D : Md} {p : Addr} (h : ModelAt K H zs a D) (b : But p H H') (hp : Pot H p) (n : ¬ a.Has p) : ModelAt K H' zs a D :=
  h.keep (fun c o hc e => b c o (fun z => n (z ▸ hc)) e) (b.kt hp)
def zeros (n : Nat) : List Int := List.replicate n 0
def newMd (n : Nat) : Md := ⟨zeros n, zeros n, List.replicate n []⟩
/-- pairs that a comprehension makes -/
def PairsAt (K : PySem.W.Frag) (H : Hp) (ps : List Addr) (kvs : List (Key × V)) : Prop := Paired (fun p kv => SqT K H p [kV kv.1, kv.2]) ps kvs
theorem Paired.snoc {α β : Type} {R : α → β → Prop} : ∀ {l : List α} {m : List β} {a : α} {b : β}, Paired R l m → R a b → Paired R (l ++ [a]) (m ++ [b])
  | _, _, _, _, .nil, h => .cons h .nil
  | _, _, _, _, .cons r t, h => .cons r (Paired.snoc t h)
theorem pairs_kt {K : PySem.W.Frag} {H H' : Hp} (k : KT H H') : ∀ {ps : List Addr} {kvs : List (Key × V)}, PairsAt K H ps kvs → PairsAt K H' ps kvs
  | _, _, .nil => .nil
  | _, _, .cons r t => .cons (by
      rcases r with (r | ⟨o, r⟩) | r
      · exact .inl (.inl (k _ _ r trivial))
      · exact .inl (.inr ⟨o, k _ _ r trivial⟩)
      · exact .inr r) (pairs_kt k t)
theorem dct_snoc {zs : List Str} {vs : List V} {z : Str} {v : V} (h : vs.length = zs.length) : dct (zs ++ [z]) (vs ++ [v]) = dct zs vs ++ [(Sum.inr z, v)] := by
  unfold dct
  rw [List.zip_append h.symm, List.map_append]
  rfl
theorem take_succ {α : Type} {l : List α} {i : Nat} (h : i < l.length) : l.take (i + 1) = l.take i ++ [l[i]] := by
  rw [List.take_add_one, List.getElem?_eq_getElem h]
  rfl
theorem pairs_step {K : PySem.W.Frag} {H0 H' : Hp} {D t : Addr} {ps : List Addr} {zs : List Str} {vs : List V} {z : Str} {v : V} (nD : H0 D = none) (s : Same H0 H') (hD : H' D = some (.lst (ps.map V.ref))) (hp : PairsAt K H' ps (dct zs vs)) (l : vs.length = zs.length) (nt : H' t = none) :
    Same H0 (upd (upd H' t (.tup [.str z, v])) D (.lst (ps.map V.ref ++ [.ref t]))) ∧ upd (upd H' t (.tup [.str z, v])) D (.lst (ps.map V.ref ++ [.ref t])) D = some (.lst ((ps ++ [t]).map V.ref)) ∧
      PairsAt K (upd (upd H' t (.tup [.str z, v])) D (.lst (ps.map V.ref ++ [.ref t]))) (ps ++ [t]) (dct (zs ++ [z]) (vs ++ [v])) ∧ KT H' (upd (upd H' t (.tup [.str z, v])) D (.lst (ps.map V.ref ++ [.ref t]))) := by
  have tD : t ≠ D := (ne_of_none hD nt).symm
  have kt : KT H' (upd (upd H' t (.tup [.str z, v])) D (.lst (ps.map V.ref ++ [.ref t]))) := (kt_same (same_upd nt)).trans (kt_upd (o := .lst (ps.map V.ref)) (by rw [upd_ne tD.symm]; exact hD) fun z => z)
  refine ⟨fun b o e => ?_, by rw [upd_same, List.map_append]; rfl, ?_, kt⟩
  · rw [upd_ne (ne_of_none e nD), upd_ne (ne_of_none (s b o e) nt)]
    exact s b o e
  · rw [dct_snoc l]
    refine Paired.snoc (pairs_kt kt hp) (.inl (.inl ?_))
    rw [upd_ne tD, upd_same]
    rfl
theorem Paired.len {α β : Type} {R : α → β → Prop} : ∀ {l : List α} {m : List β}, Paired R l m → l.length = m.length
  | _, _, .nil => rfl
  | _, _, .cons _ t => by rw [List.length_cons, List.length_cons, Paired.len t]
section
variable {P : Program} {w : World} {K : PySem.W.Frag} {mg : Str → Option Value} {base : Heap}
abbrev sLMd : Stmt := topS 51
abbrev nLMd : List Str := ["_law_names_here", "_law_name_here"]
theorem scLMd : FnScope nLMd ["_law_names_here"] (defScope sLMd) := ⟨rfl, rfl, rfl, by decide +kernel, rfl, by decide +kernel, by decide +kernel⟩
def spLMd (K : PySem.W.Frag) : Sp := fun vs H Q _ => ∃ (nl : Addr) (zs : List Str), vs = [.ref nl] ∧ H nl = some (.lst (zs.map V.str)) ∧ zs.Nodup ∧ zs.length ≤ 13 ∧ ∀ a H', Same H H' → (∀ b, MdA.Has a b → H b = none) → ModelAt K H' zs a (newMd zs.length) → Q (.ref a.m) H'
theorem ok_lmd {f : Addr} {fd : FuncData} (F : Fun K "_law_model" "_law_model" sLMd f fd) (B3 : Blt3 mg) : FnOk P w K mg base CX0 1 f fd ["_law_names_here"] (spLMd K) := by
  refine F.ok scLMd (fun vs H Q E h => ?_) (fun cdv Ar outer s H vs Q E hr h => ?_)
  · obtain ⟨_, _, rfl, _⟩ := h
    rfl
  · obtain ⟨nl, zs, rfl, hn, nd, lz, q⟩ := h
    refine ⟨_, pss_one (ps_ret (pe_disp (pps_cons pe_str (pe_callTy call_list_of (by rfl) B3.list (by decide +kernel) (pa_cons (pv 0) pa_nil))
      (pps_cons pe_str (pe_callTy (call_dictP rfl) (by rfl) B3.dict (by decide +kernel) (pa_cons (pe_lc (own := [("_law_name_here", 1)]) (g := gName 1) (tt := tYes) rfl scLMd.nd (pi_list (pv 0)) (blkOk_by (N := nLMd) (sc := defScope sLMd) (own := [("_law_name_here", 1)]) (by decide +kernel))
          (fun _ _ _ _ _ => pg_name (i := 1) scLMd.nd rfl (.inl rfl) (hf := .inr rfl)) (fun _ _ _ _ _ => pts_nil) (fun _ _ _ _ _ => pe_tup (pa_cons (pv 1) (pa_cons pe_int pa_nil)))) pa_nil))
      (pps_cons pe_str (pe_callTy (call_dictP rfl) (by rfl) B3.dict (by decide +kernel) (pa_cons (pe_lc (own := [("_law_name_here", 1)]) (g := gName 1) (tt := tYes) rfl scLMd.nd (pi_list (pv 0)) (blkOk_by (N := nLMd) (sc := defScope sLMd) (own := [("_law_name_here", 1)]) (by decide +kernel))
          (fun _ _ _ _ _ => pg_name (i := 1) scLMd.nd rfl (.inl rfl) (hf := .inr rfl)) (fun _ _ _ _ _ => pts_nil) (fun _ _ _ _ _ => pe_tup (pa_cons (pv 1) (pa_cons pe_int pa_nil)))) pa_nil))
      (pps_cons pe_str (pe_callTy (call_dictP rfl) (by rfl) B3.dict (by decide +kernel) (pa_cons (pe_lc (own := [("_law_name_here", 1)]) (g := gName 1) (tt := tYes) rfl scLMd.nd (pi_list (pv 0)) (blkOk_by (N := nLMd) (sc := defScope sLMd) (own := [("_law_name_here", 1)]) (by decide +kernel))
          (fun _ _ _ _ _ => pg_name (i := 1) scLMd.nd rfl (.inl rfl) (hf := .inr rfl)) (fun _ _ _ _ _ => pts_nil) (fun _ _ _ _ _ => pe_tup (pa_cons (pv 1) (pa_cons (pe_lst pa_nil) pa_nil)))) pa_nil)) pps_nil)))) (by rfl) (by rfl) (fun z => by cases z) (by show 4 ≤ 15; decide))), ?_⟩
    intro m nm
    have s1 := same_upd (o := .dK []) nm
    have sq : SqL K H nl (zs.map V.str) := .inl (.inl hn)
    refine ⟨.ref nl, rfl, nl, _, rfl, .inl (s1.seq sq), fun lo nlo => ?_⟩
    have s2 := s1.trans (same_upd (o := .lst (zs.map V.str)) nlo)
    generalize hH2 : upd (upd H m (.dK [])) lo (.lst (zs.map V.str)) = H2 at s2
    have hm2 : H2 m = some (.dK []) := by
      rw [← hH2, upd_ne (by intro e; rw [← e, upd_same] at nlo; cases nlo), upd_same]
    have hl2 : H2 lo = some (.lst (zs.map V.str)) := by
      rw [← hH2, upd_same]
    have nloH : H lo = none := s1.free nlo
    have step0 : ∀ (H0 H' : Hp) (D : Addr) (ps : List Addr) (i : Nat) (hi : i < zs.length), H0 D = none → Same H0 H' → H' D = some (.lst (ps.map V.ref)) → PairsAt K H' ps (dct (zs.take i) ((zeros i).map V.int)) → ∀ t, H' t = none →
        Same H0 (upd (upd H' t (.tup [.str zs[i], .int 0])) D (.lst (ps.map V.ref ++ [.ref t]))) ∧ ∃ ps', upd (upd H' t (.tup [.str zs[i], .int 0])) D (.lst (ps.map V.ref ++ [.ref t])) D = some (.lst (List.map V.ref ps')) ∧
          PairsAt K (upd (upd H' t (.tup [.str zs[i], .int 0])) D (.lst (ps.map V.ref ++ [.ref t]))) ps' (dct (zs.take (i + 1)) ((zeros (i + 1)).map V.int)) := fun H0 H' D ps i hi nD sm hD hp t nt => by
      obtain ⟨a1, a2, a3, _⟩ := pairs_step (z := zs[i]) (v := .int 0) nD sm hD hp (by unfold zeros; rw [List.length_map, List.length_replicate, List.length_take]; omega) nt
      refine ⟨a1, ps ++ [t], a2, ?_⟩
      rw [take_succ hi, show (zeros (i + 1)).map V.int = (zeros i).map V.int ++ [.int 0] by unfold zeros; rw [List.replicate_succ', List.map_append]; rfl]
      exact a3
    have full : zs.take zs.length = zs := List.take_length
    have lenz : (zs.map V.str).length = zs.length := List.length_map ..
    have smallP : ∀ {H' : Hp} {ps : List Addr} {i : Nat} {vs : List V}, i < zs.length → vs.length = i → PairsAt K H' ps (dct (zs.take i) vs) → (ps.map V.ref).length < sizeLine := fun {H' ps i vs} hi hv hp => by
      rw [List.length_map, Paired.len hp]
      unfold dct
      rw [List.length_map, List.length_zip]
      exact small1000 (by omega)
    have lenZ : ∀ i, ((zeros i).map V.int).length = i := fun i => by
      unfold zeros
      rw [List.length_map, List.length_replicate]
    have strAt : ∀ {i : Nat} {x : V} (hi : i < zs.length), (zs.map V.str)[i]? = some x → x = .str zs[i] := fun {i x} hi e => by
      rw [List.getElem?_map, List.getElem?_eq_getElem hi] at e
      exact (Option.some.inj e).symm
    -- 'given'
    refine ⟨.ref nl, rfl, nl, rfl, ⟨_, s2.seq sq⟩, fun D1 nD1 => ?_⟩
    refine lc_it (walk_list (K := K) (a := nl) (xs := zs.map V.str)) (fun i H' => Same H2 H' ∧ ∃ ps, H' D1 = some (.lst (List.map V.ref ps)) ∧ PairsAt K H' ps (dct (zs.take i) ((zeros i).map V.int))) ⟨same_upd nD1, [], upd_same, .nil⟩ (fun i H' _ hP => hP.1.seq (s2.seq sq))
      (fun i x H3' H3 hi hP hY => ?_) (fun H3 hP => ?_)
    · obtain ⟨rfl, hx⟩ := hY
      rw [lenz] at hi
      obtain ⟨sm, ps, hD, hp⟩ := hP
      cases strAt hi hx
      refine ⟨rfl, _, rfl, by show 2 ≤ sizeLine; decide, fun t nt => ⟨_, by rw [upd_ne (ne_of_none hD nt)]; exact hD, smallP hi (lenZ i) hp, ?_⟩⟩
      exact step0 H2 H3 D1 ps i hi nD1 sm hD hp t nt
    obtain ⟨s3, ps1, hD1, hp1⟩ := hP
    rw [lenz, full] at hp1
    refine ⟨D1, ps1, _, rfl, .inl (.inl hD1), hp1, fun dg ndg => ?_⟩
    rw [merge_new nd]
    have s4 := s3.trans (same_upd (o := .dK (dct zs ((zeros zs.length).map V.int))) ndg)
    generalize hH4 : upd H3 dg (.dK (dct zs ((zeros zs.length).map V.int))) = H4 at s4
    have hg4 : H4 dg = some (.dK (dct zs ((zeros zs.length).map V.int))) := by
      rw [← hH4, upd_same]
    have ndgH : H2 dg = none := s3.free ndg
    -- 'fallen'
    refine ⟨.ref nl, rfl, nl, rfl, ⟨_, s4.seq (s2.seq sq)⟩, fun D2 nD2 => ?_⟩
    refine lc_it (walk_list (K := K) (a := nl) (xs := zs.map V.str)) (fun i H' => Same H4 H' ∧ ∃ ps, H' D2 = some (.lst (List.map V.ref ps)) ∧ PairsAt K H' ps (dct (zs.take i) ((zeros i).map V.int))) ⟨same_upd nD2, [], upd_same, .nil⟩ (fun i H' _ hP => hP.1.seq (s4.seq (s2.seq sq)))
      (fun i x H5' H5 hi hP hY => ?_) (fun H5 hP => ?_)
    · obtain ⟨rfl, hx⟩ := hY
      rw [lenz] at hi
      obtain ⟨sm, ps, hD, hp⟩ := hP
      cases strAt hi hx
      refine ⟨rfl, _, rfl, by show 2 ≤ sizeLine; decide, fun t nt => ⟨_, by rw [upd_ne (ne_of_none hD nt)]; exact hD, smallP hi (lenZ i) hp, ?_⟩⟩
      exact step0 H4 H5 D2 ps i hi nD2 sm hD hp t nt
    obtain ⟨s5, ps2, hD2, hp2⟩ := hP
    rw [lenz, full] at hp2
    refine ⟨D2, ps2, _, rfl, .inl (.inl hD2), hp2, fun df ndf => ?_⟩
    rw [merge_new nd]
    have s6 := s5.trans (same_upd (o := .dK (dct zs ((zeros zs.length).map V.int))) ndf)
    generalize hH6 : upd H5 df (.dK (dct zs ((zeros zs.length).map V.int))) = H6 at s6
    have hf6 : H6 df = some (.dK (dct zs ((zeros zs.length).map V.int))) := by
      rw [← hH6, upd_same]
    have ndfH : H4 df = none := s5.free ndf
    -- 'notes'
    have s26 := s4.trans s6
    refine ⟨.ref nl, rfl, nl, rfl, ⟨_, s26.seq (s2.seq sq)⟩, fun D3 nD3 => ?_⟩
    refine lc_it (walk_list (K := K) (a := nl) (xs := zs.map V.str)) (fun i H' => Same H6 H' ∧ ∃ ps rs, H' D3 = some (.lst (List.map V.ref ps)) ∧ rs.length = i ∧ PairsAt K H' ps (dct (zs.take i) (List.map V.ref rs)) ∧ rs.Nodup ∧ (∀ r ∈ rs, H6 r = none ∧ r ≠ D3 ∧ H' r = some (.lst [])))
      ⟨same_upd nD3, [], [], upd_same, rfl, .nil, List.nodup_nil, fun r hr => absurd hr List.not_mem_nil⟩ (fun i H' _ hP => hP.1.seq (s26.seq (s2.seq sq))) (fun i x H7' H7 hi hP hY => ?_) (fun H7 hP => ?_)
    · obtain ⟨rfl, hx⟩ := hY
      rw [lenz] at hi
      obtain ⟨sm, ps, rs, hD, lrs, hp, nrs, hrs⟩ := hP
      cases strAt hi hx
      refine ⟨rfl, _, rfl, Nat.zero_le _, fun e ne => ⟨by show 2 ≤ sizeLine; decide, fun t nt => ?_⟩⟩
      have se := same_upd (o := .lst []) ne
      have hDe := se _ _ hD
      have eD : e ≠ D3 := (ne_of_none hD ne).symm
      have hpe := pairs_kt (kt_same se) hp
      refine ⟨_, by rw [upd_ne (ne_of_none hDe nt)]; exact hDe, smallP hi (by rw [List.length_map, lrs]) hp, ?_⟩
      obtain ⟨a1, a2, a3, a4⟩ := pairs_step (z := zs[i]) (v := .ref e) nD3 (sm.trans se) hDe hpe (by rw [List.length_map, List.length_take, lrs]; omega) nt
      have et : e ≠ t := ne_of_none (upd_same (H := H7)) nt
      refine ⟨a1, ps ++ [t], rs ++ [e], a2, by rw [List.length_append, lrs]; rfl, ?_, ?_, fun r hr => ?_⟩
      · rw [take_succ hi, List.map_append]
        exact a3
      · rw [List.nodup_append]
        refine ⟨nrs, by simp, fun a ha b hb z => ?_⟩
        rw [List.mem_singleton.mp hb] at z
        have := (hrs a ha).2.2
        rw [z, ne] at this
        cases this
      · rcases List.mem_append.mp hr with hr | hr
        · obtain ⟨b1, b2, b3⟩ := hrs r hr
          exact ⟨b1, b2, by rw [upd_ne b2, upd_ne (ne_of_none (se _ _ b3) nt)]; exact se _ _ b3⟩
        · rw [List.mem_singleton.mp hr]
          exact ⟨sm.free ne, eD, by rw [upd_ne eD, upd_ne et, upd_same]⟩
    obtain ⟨s7, ps3, rs, hD3, lrs, hp3, nrs, hrs⟩ := hP
    rw [lenz] at lrs
    rw [lenz, full] at hp3
    refine ⟨D3, ps3, _, rfl, .inl (.inl hD3), hp3, fun dn ndn => ?_⟩
    rw [merge_new nd]
    have s8 := s7.trans (same_upd (o := .dK (dct zs (List.map V.ref rs))) ndn)
    have s28 := s26.trans s8
    refine ⟨s28 _ _ hm2, dct keysM [.ref lo, .ref dg, .ref df, .ref dn], rfl, by show 4 ≤ 15; decide, ?_⟩
    rw [merge_new keysM_nd]
    have hm8 : upd H7 dn (.dK (dct zs (List.map V.ref rs))) m = some (.dK []) := s28 _ _ hm2
    generalize hH8 : upd H7 dn (.dK (dct zs (List.map V.ref rs))) = H8 at s8 s28 hm8
    have hn8 : H8 dn = some (.dK (dct zs (List.map V.ref rs))) := by
      rw [← hH8, upd_same]
    have nH2 : ∀ {b : Addr}, H2 b = none → H b = none := fun {b} h => s2.free h
    have mne : ∀ {b : Addr}, H2 b = none → b ≠ m := fun {b} h => (ne_of_none hm2 h).symm
    have sM : ∀ b o, b ≠ m → H8 b = some o → upd H8 m (.dK (MdA.main ⟨m, lo, dg, df, dn, rs⟩)) b = some o := fun b o n e => by
      rw [upd_ne n]
      exact e
    have dn2 : H2 dn = none := s26.free (s7.free ndn)
    have df2 : H2 df = none := s4.free ndfH
    have rs2 : ∀ r ∈ rs, H2 r = none := fun r hr => s26.free (hrs r hr).1
    have lom : lo ≠ m := fun z => by
      rw [z, hm2] at hl2
      cases hl2
    refine q ⟨m, lo, dg, df, dn, rs⟩ (upd H8 m (.dK (MdA.main ⟨m, lo, dg, df, dn, rs⟩))) (fun b o e => ?_) (fun b hb => ?_) ?_
    · rw [upd_ne (ne_of_none e nm)]
      exact s28 _ _ (s2 _ _ e)
    · rcases hb with h | h | h | h | h | h
      · rw [h]; exact nm
      · rw [h]; exact nloH
      · rw [h]; exact nH2 ndgH
      · rw [h]; exact nH2 df2
      · rw [h]; exact nH2 dn2
      · exact nH2 (rs2 b h)
    · refine ⟨upd_same, sM _ _ lom (s28 _ _ hl2), sM _ _ (mne ndgH) (s8 _ _ (s6 _ _ hg4)), sM _ _ (mne df2) (s8 _ _ hf6), sM _ _ (mne dn2) hn8, fun i r l e1 e2 => ?_, nrs, fun hc => ?_, fun z => ?_, fun z => ?_, mne ndgH, (mne dn2).symm, nd, ?_, ?_, ?_, lrs⟩
      · have hr := List.mem_of_getElem? e1
        have el : l = [] := by
          have e2' : (List.replicate zs.length ([] : List (Str × Int)))[i]? = some l := e2
          rw [List.getElem?_replicate] at e2'
          split at e2'
          · exact (Option.some.inj e2').symm
          · cases e2'
        subst el
        refine ⟨[], sM _ _ (mne (rs2 r hr)) ?_, .nil⟩
        rw [← hH8, upd_ne (ne_of_none (hrs r hr).2.2 ndn)]
        exact (hrs r hr).2.2
      · have := rs2 lo hc
        rw [hl2] at this
        cases this
      · have z' : dg = df := z
        rw [← z', hg4] at ndfH
        cases ndfH
      · have z' : dg = dn := z
        have := s7.free ndn
        rw [← z', s6 _ _ hg4] at this
        cases this
      · unfold newMd zeros
        exact List.length_replicate
      · unfold newMd zeros
        exact List.length_replicate
      · unfold newMd
        exact List.length_replicate
end
end Rc

namespace Rc
open PySem PySem.Spec PyProof.Rows L2 RZ
theorem dget_at {H : Hp} {a : Addr} {zs : List Str} {vs : List V} {j : Nat} {z : Str} {v : V} (h : H a = some (.dK (dct zs vs))) (nd : zs.Nodup) (e1 : zs[j]? = some z) (e2 : vs[j]? = some v) : DGet H a (.str z) (some v) := by
  have := DGet.k (k := Sum.inr z) h
  rw [dct_val nd e1 e2] at this
  exact this
section
variable {K : PySem.W.Frag} {H : Hp} {zs : List Str} {a : MdA} {D : Md}
theorem ModelAt.g0 (h : ModelAt K H zs a D) : DGet H a.m (.str "order") (some (.ref a.lo)) := dget_at (j := 0) h.hm keysM_nd rfl rfl
theorem ModelAt.g1 (h : ModelAt K H zs a D) : DGet H a.m (.str "given") (some (.ref a.dg)) := dget_at (j := 1) h.hm keysM_nd rfl rfl
theorem ModelAt.g2 (h : ModelAt K H zs a D) : DGet H a.m (.str "fallen") (some (.ref a.df)) := dget_at (j := 2) h.hm keysM_nd rfl rfl
theorem ModelAt.g3 (h : ModelAt K H zs a D) : DGet H a.m (.str "notes") (some (.ref a.dn)) := dget_at (j := 3) h.hm keysM_nd rfl rfl
theorem ModelAt.gg (h : ModelAt K H zs a D) {j : Nat} {z : Str} {n : Int} (e : zs[j]? = some z) (e2 : D.given[j]? = some n) : DGet H a.dg (.str z) (some (.int n)) := dget_at h.hg h.zn e (map_get e2)
theorem ModelAt.gf (h : ModelAt K H zs a D) {j : Nat} {z : Str} {n : Int} (e : zs[j]? = some z) (e2 : D.fallen[j]? = some n) : DGet H a.df (.str z) (some (.int n)) := dget_at h.hf h.zn e (map_get e2)
theorem ModelAt.gn (h : ModelAt K H zs a D) {j : Nat} {z : Str} {r : Addr} (e : zs[j]? = some z) (e2 : a.rs[j]? = some r) : DGet H a.dn (.str z) (some (.ref r)) := dget_at h.hn h.zn e (map_get e2)
theorem ModelAt.at_ (h : ModelAt K H zs a D) {j : Nat} {z : Str} (e : zs[j]? = some z) : ∃ g f l r xs, D.given[j]? = some g ∧ D.fallen[j]? = some f ∧ D.notes[j]? = some l ∧ a.rs[j]? = some r ∧ H r = some (.lst xs) ∧ DtAll K H xs (notesD l) := by
  have hj : j < zs.length := (List.getElem?_eq_some_iff.mp e).1
  have h1 : j < D.given.length := by rw [h.lg]; exact hj
  have h2 : j < D.fallen.length := by rw [h.lf]; exact hj
  have h3 : j < D.notes.length := by rw [h.ln]; exact hj
  have h4 : j < a.rs.length := by rw [h.lr]; exact hj
  obtain ⟨xs, e1, e2⟩ := h.rows j _ _ (List.getElem?_eq_getElem h4) (List.getElem?_eq_getElem h3)
  exact ⟨_, _, _, _, xs, List.getElem?_eq_getElem h1, List.getElem?_eq_getElem h2, List.getElem?_eq_getElem h3, List.getElem?_eq_getElem h4, e1, e2⟩
end
theorem min_part (am f : Int) : (if am < f then am else f) = partOf am f := by
  unfold partOf
  split <;> split <;> omega
section
variable {P : Program} {w : World} {K : PySem.W.Frag} {mg : Str → Option Value} {base : Heap}
/-! ### _law_parted -/
abbrev sLPt : Stmt := topS 52
abbrev nLPt : List Str := ["_law_model_here", "_law_who", "_law_gone", "_law_left_here", "_law_rest", "_law_to", "_law_amount_here", "_law_here"]
theorem scLPt : FnScope nLPt ["_law_model_here", "_law_who"] (defScope sLPt) := ⟨rfl, rfl, rfl, by decide +kernel, rfl, by decide +kernel, by decide +kernel⟩
def spLPt (K : PySem.W.Frag) : Sp := fun vs H Q _ => ∃ (a : MdA) (D : Md) (zs : List Str) (z : Str) (j : Nat) (l : List (Str × Int)) (f : Int), vs = [.ref a.m, .str z] ∧ ModelAt K H zs a D ∧ zs[j]? = some z ∧ D.notes[j]? = some l ∧ D.fallen[j]? = some f ∧ l.length ≤ 100 ∧
  ∀ t g m gx mx H', Same H H' → H' t = some (.tup [.ref g, .ref m]) → H g = none → H m = none → H' g = some (.lst gx) → H' m = some (.lst mx) → DtAll K H' gx (notesD (goneN l f)) → DtAll K H' mx (notesD (leftN l f)) → Q (.ref t) H'
theorem rep_if {v : V} (c : Prop) [Decidable c] : (List.replicate (if decide c = true then (1 : Int) else 0).toNat [v]).flatten = if c then [v] else [] := by
  by_cases h : c
  · rw [decide_eq_true h, if_pos h]
    rfl
  · rw [decide_eq_false h, if_neg h]
    rfl
theorem one_note {K : PySem.W.Frag} {H : Hp} {v : V} {n : Str × Int} (c : Prop) [Decidable c] (h : Dt K H v (noteD n)) : DtAll K H (if c then [v] else []) ((if c then [n] else []).map noteD) := by
  by_cases hc : c
  · rw [if_pos hc, if_pos hc]
    exact .cons h .nil
  · rw [if_neg hc, if_neg hc]
    exact .nil
theorem ok_lpt {f : Addr} {fd : FuncData} (F : Fun K "_law_parted" "_law_parted" sLPt f fd) (B : Blt mg) (B2 : Blt2 mg) : FnOk P w K mg base CX0 1 f fd ["_law_model_here", "_law_who"] (spLPt K) := by
  refine F.ok scLPt (fun vs H Q E h => ?_) (fun cdv Ar outer s H vs Q E hr h => ?_)
  · obtain ⟨_, _, _, _, _, _, _, rfl, _⟩ := h
    rfl
  · obtain ⟨a, D, zs, z, j, l, f0, rfl, hM, ej, el, ef, ll, q⟩ := h
    have hu := hu_of hr
    refine ⟨_, pss_cons (ps_par (i := 2) (j := 3) rfl scLPt.nd rfl rfl (by decide) rfl rfl (pa_cons (pe_lst pa_nil) (pa_cons (pe_lst pa_nil) pa_nil)) (by rfl))
      (pss_cons (ps_set (i := 4) scLPt.nd rfl (.inl rfl) (pe_dget hu (pe_dget hu (pv 0) pe_str (fun _ _ => rfl)) (pv 1) (fun _ _ => rfl)))
      (pss_cons (ps_for PassesOwn.never rfl (pi_list (pe_dget hu (pe_dget hu (pv 0) pe_str (fun _ _ => rfl)) (pv 1) (fun _ _ => rfl))) (pg_tup rfl (pgs_cons (pg_name (i := 5) scLPt.nd rfl (.inl rfl)) (pgs_cons (pg_name (i := 6) scLPt.nd rfl (.inl rfl)) pgs_nil)))
        (pss_cons (ps_set (i := 7) scLPt.nd rfl (.inl rfl) (pe_callB (call_min2 rfl) (by rfl) B2.min (by decide +kernel) (pa_cons (pv 4) (pa_cons (pv 6) pa_nil))))
        (pss_cons (ps_set (i := 4) scLPt.nd rfl (.inl rfl) (pe_op op_sub (pv 4) (pv 7)))
        (pss_cons (ps_set (i := 2) scLPt.nd rfl (.inl rfl) (pe_op op_cat (pv 2) (pe_op op_rep (pe_lst (pa_cons (pe_tup (pa_cons (pv 5) (pa_cons (pv 7) pa_nil))) pa_nil)) (pe_callTy call_int1 (by rfl) B.int (by decide +kernel) (pa_cons (pe_cmpR op_gt (pv 7) pe_int (nomark _)) pa_nil)))))
        (pss_one (ps_set (i := 3) scLPt.nd rfl (.inl rfl) (pe_op op_cat (pv 3) (pe_op op_rep (pe_lst (pa_cons (pe_tup (pa_cons (pv 5) (pa_cons (pe_op op_sub (pv 6) (pv 7)) pa_nil))) pa_nil)) (pe_callTy call_int1 (by rfl) B.int (by decide +kernel) (pa_cons (pe_cmpR op_lt (pv 7) (pv 6) (nomark _)) pa_nil))))))))))
      (pss_one (ps_ret (pe_tup (pa_cons (pv 2) (pa_cons (pv 3) pa_nil))))))), ?_⟩
    obtain ⟨gv, f', l', r, xs, eg, ef', el', er, hr0, hd0⟩ := hM.at_ ej
    rw [ef] at ef'
    cases ef'
    rw [el] at el'
    cases el'
    refine ⟨Nat.zero_le _, fun g ng => ⟨Nat.zero_le _, fun m nm => ⟨_, _, rfl, ?_⟩⟩⟩
    have gm : g ≠ m := fun z => by
      rw [← z, upd_same] at nm
      cases nm
    have s0 : Same H (upd (upd H g (.lst [])) m (.lst [])) := (same_upd ng).trans (same_upd nm)
    have nmH : H m = none := (same_upd ng).free nm
    have hM0 := model_same hM s0
    refine ⟨.ref a.m, rfl, a.m, .ref a.df, rfl, hM0.g2, .str z, rfl, a.df, .int f0, rfl, hM0.gf ej ef, ?_⟩
    refine ⟨.ref a.m, rfl, a.m, .ref a.dn, rfl, hM0.g3, .str z, rfl, a.dn, .ref r, rfl, hM0.gn ej er, r, rfl, ⟨_, .inl (.inl (s0 _ _ hr0))⟩, ?_⟩
    refine for_it (walk_list (K := K) (a := r) (xs := xs)) (fun i σ H' => ∃ y5 y6 y7 fi g m gx mx Gs Ms, σ = [some (.ref a.m), some (.str z), some (.ref g), some (.ref m), some (.int fi), y5, y6, y7] ∧ Same H H' ∧ H g = none ∧ H m = none ∧ H' g = some (.lst gx) ∧ H' m = some (.lst mx) ∧
        DtAll K H' gx (notesD Gs) ∧ DtAll K H' mx (notesD Ms) ∧ Gs.length ≤ i ∧ Ms.length ≤ i ∧ Gs ++ goneN (l.drop i) fi = goneN l f0 ∧ Ms ++ leftN (l.drop i) fi = leftN l f0)
      ⟨_, _, _, f0, g, m, [], [], [], [], rfl, s0, ng, nmH, by rw [upd_ne gm, upd_same], upd_same, .nil, .nil, Nat.le_refl _, Nat.le_refl _, rfl, rfl⟩ (fun i σ H' _ hP => ?_) (fun i x σ H1' H1 hi hP hY => ?_) (fun σ H' hP => ?_)
    · obtain ⟨_, _, _, _, _, _, _, _, _, _, _, s1, _⟩ := hP
      exact .inl (.inl (s1 _ _ hr0))
    · obtain ⟨rfl, ex⟩ := hY
      obtain ⟨y5, y6, y7, fi, g, m, gx, mx, Gs, Ms, rfl, s1, ng, nm, hg, hm, dg, dm, lg, lm, eg', em⟩ := hP
      obtain ⟨hil, dn⟩ := (DtAll.same s1 _ hd0).notes_get ex
      obtain ⟨ta, rfl, qt⟩ := note_inv dn
      have ed : l.drop i = l[i] :: l.drop (i + 1) := List.drop_eq_getElem_cons hil
      rw [ed] at eg' em
      obtain ⟨t, am, el1⟩ : ∃ t am, l[i] = (t, am) := ⟨_, _, rfl⟩
      rw [el1] at eg' em qt
      rw [goneN_cons] at eg'
      rw [leftN_cons] at em
      have dgl := dg.len
      have dml := dm.len
      unfold notesD at dgl dml
      rw [List.length_map] at dgl dml
      refine ⟨ta, _, rfl, qt, rfl, _, _, rfl, _, _, rfl, rfl, ?_⟩
      refine ⟨.int fi, rfl, .int am, rfl, _, _, rfl, ?_⟩
      rw [min_part]
      generalize partOf am fi = pt at eg' em
      refine ⟨.int fi, rfl, .int pt, rfl, _, _, rfl, rfl, ?_⟩
      refine ⟨.ref g, rfl, .str t, rfl, .int pt, rfl, by show 2 ≤ sizeLine; decide, fun t1 n1 => ⟨by show 1 ≤ sizeLine; decide, fun l1 nl1 => ?_⟩⟩
      refine ⟨.int pt, rfl, _, _, rfl, rfl, .inr ⟨_, rfl, l1, _, _, rfl, rfl, upd_same, by split <;> decide, by split <;> decide, ?_, fun l2 nl2 => ?_⟩⟩
      · show 1 * _ ≤ sizeLine
        split <;> decide
      rw [rep_if]
      have sA := (same_upd (o := .tup [V.str t, V.int pt]) n1).trans ((same_upd (o := .lst [V.ref t1]) nl1).trans (same_upd (o := .lst (if 0 < pt then [V.ref t1] else [])) nl2))
      generalize hHA : upd (upd (upd H1 t1 (.tup [V.str t, V.int pt])) l1 (.lst [V.ref t1])) l2 (.lst (if 0 < pt then [V.ref t1] else [])) = HA at sA
      have hl2 : HA l2 = some (.lst (if 0 < pt then [V.ref t1] else [])) := by
        rw [← hHA, upd_same]
      have ht1 : HA t1 = some (.tup [V.str t, V.int pt]) := by
        rw [← hHA]
        exact (same_upd nl2) _ _ ((same_upd nl1) _ _ upd_same)
      refine ⟨g, l2, gx, _, rfl, rfl, sA _ _ hg, hl2, ?_, fun g2 ng2 => ?_⟩
      · have : (if 0 < pt then [V.ref t1] else []).length ≤ 1 := by split <;> simp
        exact small_line (by omega)
      have sB := sA.trans (same_upd (o := .lst (gx ++ if 0 < pt then [V.ref t1] else [])) ng2)
      generalize hHB : upd HA g2 (.lst (gx ++ if 0 < pt then [V.ref t1] else [])) = HB at sB
      have hg2 : HB g2 = some (.lst (gx ++ if 0 < pt then [V.ref t1] else [])) := by
        rw [← hHB, upd_same]
      have ht1B : HB t1 = some (.tup [V.str t, V.int pt]) := by
        rw [← hHB]
        exact same_upd ng2 _ _ ht1
      have ng2H : H g2 = none := (s1.trans sA).free ng2
      -- left
      refine ⟨.ref m, rfl, .str t, rfl, .int am, rfl, .int pt, rfl, _, _, rfl, rfl, by show 2 ≤ sizeLine; decide, fun t3 n3 => ⟨by show 1 ≤ sizeLine; decide, fun l3 nl3 => ?_⟩⟩
      refine ⟨.int pt, rfl, .int am, rfl, _, _, rfl, rfl, .inr ⟨_, rfl, l3, _, _, rfl, rfl, upd_same, by split <;> decide, by split <;> decide, ?_, fun l4 nl4 => ?_⟩⟩
      · show 1 * _ ≤ sizeLine
        split <;> decide
      rw [rep_if]
      have sC := (same_upd (o := .tup [V.str t, V.int (am - pt)]) n3).trans ((same_upd (o := .lst [V.ref t3]) nl3).trans (same_upd (o := .lst (if pt < am then [V.ref t3] else [])) nl4))
      generalize hHC : upd (upd (upd HB t3 (.tup [V.str t, V.int (am - pt)])) l3 (.lst [V.ref t3])) l4 (.lst (if pt < am then [V.ref t3] else [])) = HC at sC
      have hl4 : HC l4 = some (.lst (if pt < am then [V.ref t3] else [])) := by
        rw [← hHC, upd_same]
      have ht3 : HC t3 = some (.tup [V.str t, V.int (am - pt)]) := by
        rw [← hHC]
        exact (same_upd nl4) _ _ ((same_upd nl3) _ _ upd_same)
      refine ⟨m, l4, mx, _, rfl, rfl, sC _ _ (sB _ _ hm), hl4, ?_, fun m2 nm2 => ?_⟩
      · have : (if pt < am then [V.ref t3] else []).length ≤ 1 := by split <;> simp
        exact small_line (by omega)
      have sD := sC.trans (same_upd (o := .lst (mx ++ if pt < am then [V.ref t3] else [])) nm2)
      have sE := same_upd (o := .lst (mx ++ if pt < am then [V.ref t3] else [])) nm2
      refine ⟨_, _, _, fi - pt, g2, m2, _, _, Gs ++ (if 0 < pt then [(t, pt)] else []), Ms ++ (if pt < am then [(t, am - pt)] else []), rfl, s1.trans (sB.trans sD), ng2H, ((s1.trans sB).trans sC).free nm2, sD _ _ hg2, upd_same, ?_, ?_, ?_, ?_, by rw [List.append_assoc]; exact eg', by rw [List.append_assoc]; exact em⟩
      · unfold notesD
        rw [List.map_append]
        exact (DtAll.same (sB.trans sD) _ dg).append (one_note _ (.tup (.inl (.inl (sD _ _ ht1B))) (.cons (.str _) (.cons (.int _) .nil))))
      · unfold notesD
        rw [List.map_append]
        exact (DtAll.same (sB.trans sD) _ dm).append (one_note _ (.tup (.inl (.inl (sE _ _ ht3))) (.cons (.str _) (.cons (.int _) .nil))))
      · rw [List.length_append]
        have : (if 0 < pt then [(t, pt)] else []).length ≤ 1 := by split <;> simp
        omega
      · rw [List.length_append]
        have : (if pt < am then [(t, am - pt)] else []).length ≤ 1 := by split <;> simp
        omega
    · obtain ⟨y5, y6, y7, fi, g, m, gx, mx, Gs, Ms, rfl, s1, ng, nm, hg, hm, dg, dm, lg, lm, eg', em⟩ := hP
      have hx : l.drop xs.length = [] := List.drop_of_length_le (by
        have := hd0.len
        unfold notesD at this
        rw [List.length_map] at this
        omega)
      rw [hx] at eg' em
      rw [goneN_nil, List.append_nil] at eg'
      rw [leftN_nil, List.append_nil] at em
      subst eg' em
      refine ⟨.ref g, rfl, .ref m, rfl, by show 2 ≤ sizeLine; decide, fun t nt => ?_⟩
      have st := same_upd (o := .tup [.ref g, .ref m]) nt
      exact q t g m gx mx _ (s1.trans st) upd_same ng nm (st _ _ hg) (st _ _ hm) (DtAll.same st _ dg) (DtAll.same st _ dm)
end
end Rc

namespace Rc
open PySem PySem.Spec PyProof.Rows L2 RZ
/-! ### _law_deeds -/
inductive Deed where
  | give (z : Str) (n : Int)
  | put (z y : Str) (n : Int)
def deedD : Deed → PyData
  | .give z n => .tuple [.str "give", .str z, .int n]
  | .put z y n => .tuple [.str "put", .str z, .str y, .int n]
theorem tup_deed (d : Deed) : tupD (deedD d) = true := by cases d <;> simp [deedD, tupD, tupDs]
def deedsD (l : List Deed) : List PyData := l.map deedD
theorem tup_deeds (l : List Deed) : tupDs (deedsD l) = true := tupDs_map tup_deed l
def Deed.Ok (zs : List Str) : Deed → Prop
  | .give z n => z ∈ zs ∧ Amt n
  | .put z y n => z ∈ zs ∧ y ∈ zs ∧ Amt n
end Rc

namespace Rc
open PySem PySem.Spec PyProof.Rows L2 RZ
def RowsOk (D : Md) : Prop := ∀ l ∈ D.notes, l.length ≤ 60
def sumsD (D : Md) (z : Str) : Int := ((D.notes.zip D.fallen).map fun p => sumTo z (goneN p.1 p.2)).sum
def cashD (D : Md) (j : Nat) (z : Str) : Int := D.given.getD j 0 - D.fallen.getD j 0 + sumsD D z
def bkOf (zs : List Str) (D : Md) : Bk := ⟨zs, D.given, D.notes, D.fallen⟩
theorem cash_eq (zs : List Str) (D : Md) (j : Nat) (z : Str) : cashM (bkOf zs D) j z = cashD D j z := by
  show D.given.getD j 0 + sumsD D z - D.fallen.getD j 0 = D.given.getD j 0 - D.fallen.getD j 0 + sumsD D z
  omega
def doneD (zs : List Str) (D : Md) : Deed → Md
  | .give z n => { D with given := D.given.set (zs.idxOf z) (D.given.getD (zs.idxOf z) 0 + n) }
  | .put z y n => { D with notes := D.notes.set (zs.idxOf z) (D.notes.getD (zs.idxOf z) [] ++ [(y, n)]) }
def stepM (M : Bk) : Deed → Bk
  | .give z n => giveM M (M.names.idxOf z) n
  | .put z y n => putM M (M.names.idxOf z) y n
theorem step_eq (zs : List Str) (D : Md) (d : Deed) : stepM (bkOf zs D) d = bkOf zs (doneD zs D d) := by cases d <;> rfl
theorem idx_get {zs : List Str} {z : Str} (h : z ∈ zs) : zs[zs.idxOf z]? = some z := by
  have hl := List.idxOf_lt_length_of_mem h
  rw [List.getElem?_eq_getElem hl, List.getElem_idxOf]
theorem sum_set : ∀ (l : List (List (Str × Int))) (j : Nat) (x : List (Str × Int)), j < l.length → ((l.set j x).map List.length).sum + (l.getD j []).length = (l.map List.length).sum + x.length
  | [], j, x, h => by simp at h
  | a :: r, 0, x, h => by
    simp only [List.set_cons_zero, List.map_cons, List.sum_cons, List.getD_cons_zero]
    omega
  | a :: r, j + 1, x, h => by
    have := sum_set r j x (by simpa using h)
    simp only [List.set_cons_succ, List.map_cons, List.sum_cons, List.getD_cons_succ]
    omega
theorem step_ok {M : Bk} (ok : M.Ok) {d : Deed} (hd : d.Ok M.names) (hm : manyM M + 1 ≤ 60) : (stepM M d).Ok ∧ manyM (stepM M d) ≤ manyM M + 1 ∧ (stepM M d).names = M.names := by
  cases d with
  | give z n => exact ⟨⟨ok.n0, ok.n1, ok.nd, ok.nm, by show (M.gifts.set _ _).length = _; rw [List.length_set]; exact ok.lg, ok.ls, ok.ld, ok.many⟩, Nat.le_succ _, rfl⟩
  | put z y n =>
    have hj : M.names.idxOf z < M.stacks.length := by
      rw [ok.ls]
      exact List.idxOf_lt_length_of_mem hd.1
    have e : manyM (stepM M (.put z y n)) = manyM M + 1 := by
      have := sum_set M.stacks (M.names.idxOf z) (M.stacks.getD (M.names.idxOf z) [] ++ [(y, n)]) hj
      rw [List.length_append] at this
      show ((M.stacks.set _ _).map List.length).sum = (M.stacks.map List.length).sum + 1
      have e1 : [(y, n)].length = 1 := rfl
      omega
    exact ⟨⟨ok.n0, ok.n1, ok.nd, ok.nm, ok.lg, by show (M.stacks.set _ _).length = _; rw [List.length_set]; exact ok.ls, ok.ld, by show manyM (stepM M (.put z y n)) ≤ 60; omega⟩, Nat.le_of_eq e, rfl⟩
theorem dfold_ok : ∀ (ds : List Deed) {M : Bk}, M.Ok → (∀ d ∈ ds, d.Ok M.names) → manyM M + ds.length ≤ 60 → (ds.foldl stepM M).Ok ∧ manyM (ds.foldl stepM M) ≤ manyM M + ds.length ∧ (ds.foldl stepM M).names = M.names
  | [], M, ok, _, _ => ⟨ok, Nat.le_refl _, rfl⟩
  | d :: ds, M, ok, h, hm => by
    rw [List.length_cons] at hm
    obtain ⟨a1, a2, a3⟩ := step_ok ok (h d List.mem_cons_self) (by omega)
    obtain ⟨b1, b2, b3⟩ := dfold_ok ds a1 (fun e he => by rw [a3]; exact h e (List.mem_cons_of_mem _ he)) (by omega)
    refine ⟨b1, ?_, b3.trans a3⟩
    rw [List.length_cons]
    show manyM (ds.foldl stepM (stepM M d)) ≤ _
    omega
end Rc

namespace Rc
open PySem PySem.Spec PyProof.Rows L2 RZ
section
variable {P : Program} {w : World} {K : PySem.W.Frag} {mg : Str → Option Value} {base : Heap}
/-! ### _law_left -/
abbrev sLLf : Stmt := topS 53
theorem scLLf : FnScope ["_law_model_here", "_law_who"] ["_law_model_here", "_law_who"] (defScope sLLf) := ⟨rfl, rfl, rfl, by decide +kernel, rfl, by decide +kernel, by decide +kernel⟩
def spLLf (K : PySem.W.Frag) : Sp := fun vs H Q _ => ∃ (a : MdA) (D : Md) (zs : List Str) (z : Str) (j : Nat) (l : List (Str × Int)) (f : Int), vs = [.ref a.m, .str z] ∧ ModelAt K H zs a D ∧ zs[j]? = some z ∧ D.notes[j]? = some l ∧ D.fallen[j]? = some f ∧ l.length ≤ 100 ∧
  ∀ m mx H', Same H H' → H m = none → H' m = some (.lst mx) → DtAll K H' mx (notesD (leftN l f)) → Q (.ref m) H'
theorem ok_llf {f fp : Addr} {fd fdp : FuncData} (F : Fun K "_law_left" "_law_left" sLLf f fd) (PT : Has P w K mg base 1 "_law_parted" ["_law_model_here", "_law_who"] (spLPt K) fp fdp) : FnOk P w K mg base CX0 2 f fd ["_law_model_here", "_law_who"] (spLLf K) := by
  refine F.ok scLLf (fun vs H Q E h => ?_) (fun cdv Ar outer s H vs Q E hr h => ?_)
  · obtain ⟨_, _, _, _, _, _, _, rfl, _⟩ := h
    rfl
  · obtain ⟨a, D, zs, z, j, l, f0, rfl, hM, ej, el, ef, ll, q⟩ := h
    refine ⟨_, pss_one (ps_ret (pe_ix ix_tup (pe_call PT.ok hr (by rfl) PT.g PT.kp PT.b .nil pass0 (pa_cons (pv 0) (pa_cons (pv 1) pa_nil))) pe_int (fun _ _ => rfl))), ?_⟩
    refine ⟨.ref a.m, rfl, .str z, rfl, a, D, zs, z, j, l, f0, rfl, hM, ej, el, ef, ll, fun t g m gx mx H1 s1 ht ng nm hg hm dg dm => ?_⟩
    exact ⟨t, _, 1, .ref m, rfl, rfl, .inl (.inl ht), rfl, q m mx H1 s1 nm hm dm⟩
end
end Rc

namespace Rc
open PySem PySem.Spec PyProof.Rows L2 RZ
theorem give_ne_put : ¬ (V.str ("put" : Str)) = V.str ("give" : Str) := fun e => absurd (V.str.inj e) (by decide +kernel)
/-- what a deed changes -/
def MdA.Foot (a : MdA) (b : Addr) : Prop := b = a.dg ∨ b ∈ a.rs
def ButF (a : MdA) (H H' : Hp) : Prop := ∀ b o, ¬ a.Foot b → H b = some o → H' b = some o
theorem ModelAt.nofoot_tup {K : PySem.W.Frag} {H : Hp} {zs : List Str} {a : MdA} {D : Md} (h : ModelAt K H zs a D) {b : Addr} {o : HO} (e : H b = some o) (t : TupO o) : ¬ a.Foot b := fun f => by
  rcases f with f | f
  · rw [f, h.hg] at e
    cases e
    exact t
  · obtain ⟨i, hi, e'⟩ := List.getElem_of_mem f
    have hn : i < D.notes.length := by
      rw [h.ln, ← h.lr]
      exact hi
    obtain ⟨xs, e1, _⟩ := h.rows i b _ (by rw [List.getElem?_eq_getElem hi, e']) (List.getElem?_eq_getElem hn)
    rw [e1] at e
    cases e
    exact t
theorem ButF.kt {K : PySem.W.Frag} {H H' : Hp} {zs : List Str} {a : MdA} {D : Md} (b : ButF a H H') (h : ModelAt K H zs a D) : KT H H' := fun c o e t => b c o (h.nofoot_tup e t) e
theorem ButF.kp {K : PySem.W.Frag} {H H' : Hp} {zs : List Str} {a : MdA} {D : Md} (b : ButF a H H') (h : ModelAt K H zs a D) : Kp H H' := fun c o e t => b c o (fun f => by
  rcases f with f | f
  · rw [f, h.hg] at e
    cases e
    exact t
  · obtain ⟨i, hi, e'⟩ := List.getElem_of_mem f
    have hn : i < D.notes.length := by
      rw [h.ln, ← h.lr]
      exact hi
    obtain ⟨xs, e1, _⟩ := h.rows i c _ (by rw [List.getElem?_eq_getElem hi, e']) (List.getElem?_eq_getElem hn)
    rw [e1] at e
    cases e
    exact t) e
theorem deed_give {K : PySem.W.Frag} {H : Hp} {v : V} {z : Str} {n : Int} (h : Dt K H v (deedD (.give z n))) : Dt K H v (.tuple [.str "give", .str z, .int n]) := h
end Rc

namespace Rc
open PySem PySem.Spec PyProof.Rows L2 RZ
/-! ### data that can be shown -/
structure NiceD (d : PyData) (n : Nat) : Prop where
  sh : d.showable = true
  lv : d.leavesShort 1921 = true
  nd : d.hasDict = false
  dp : d.depth ≤ 5
  bk : d.bulk ≤ n
  cl : d.canLay0 = true
structure NiceA (ds : List PyData) (n : Nat) : Prop where
  sh : PyData.showableAll ds = true
  lv : PyData.leavesShortAll 1921 ds = true
  nd : PyData.hasDictAll ds = false
  dp : PyData.depthAll ds ≤ 4
  bk : PyData.bulkAll ds ≤ n
  cl : PyData.canLayAll0 ds = true
theorem NiceA.nil : NiceA [] 0 := ⟨rfl, rfl, rfl, Nat.zero_le _, Nat.le_refl _, rfl⟩
theorem NiceA.cons {d : PyData} {ds : List PyData} {n m : Nat} (a : NiceD d n) (hd : d.depth ≤ 4) (b : NiceA ds m) : NiceA (d :: ds) (n + 1 + m) := by
  refine ⟨?_, ?_, ?_, ?_, ?_, ?_⟩
  · simp only [PyData.showableAll, a.sh, b.sh, Bool.and_self]
  · simp only [PyData.leavesShortAll, a.lv, b.lv, Bool.and_self]
  · simp only [PyData.hasDictAll, a.nd, b.nd, Bool.or_self]
  · simp only [PyData.depthAll]
    have := b.dp
    omega
  · simp only [PyData.bulkAll]
    have := a.bk
    have := b.bk
    omega
  · simp only [PyData.canLayAll0, a.cl, b.cl, Bool.and_self]
theorem NiceA.list {ds : List PyData} {n : Nat} (a : NiceA ds n) : NiceD (.list ds) n := by
  refine ⟨by simpa only [PyData.showable] using a.sh, by simpa only [PyData.leavesShort] using a.lv, by simpa only [PyData.hasDict] using a.nd, ?_, by simpa only [PyData.bulk] using a.bk, by simpa only [PyData.canLay0] using a.cl⟩
  simp only [PyData.depth]
  have := a.dp
  omega
theorem NiceA.tuple {ds : List PyData} {n : Nat} (a : NiceA ds n) : NiceD (.tuple ds) n := by
  refine ⟨by simpa only [PyData.showable] using a.sh, by simpa only [PyData.leavesShort] using a.lv, by simpa only [PyData.hasDict] using a.nd, ?_, by simpa only [PyData.bulk] using a.bk, by simpa only [PyData.canLay0] using a.cl⟩
  simp only [PyData.depth]
  have := a.dp
  omega
def BigOk (i : Int) : Prop := i.natAbs < 2 ^ 300
theorem nice_int {i : Int} (h : BigOk i) : NiceD (.int i) 0 := by
  have h1 : i.natAbs.log2 < 1920 := Nat.lt_trans (PySem.Flt.log2_lt_of (by decide) h) (by decide)
  refine ⟨?_, ?_, by simp only [PyData.hasDict], by simp only [PyData.depth]; omega, by simp only [PyData.bulk]; omega, by simp only [PyData.canLay0]⟩
  · simp only [PyData.showable]
    exact decide_eq_true h1
  · simp only [PyData.leavesShort, PyData.shown]
    exact decide_eq_true (int_text_len_1921 h1)
theorem abc_lt : ∀ c ∈ abc, c < 128 := by decide +kernel
theorem name_signs {z : Str} (h : nameT z = true) : ∀ c ∈ z.cps.toList, c ∈ abc := by
  unfold nameT at h
  simp only [Bool.and_eq_true, List.all_eq_true, decide_eq_true_eq] at h
  exact h.2
theorem nice_name {z : Str} (h : nameT z = true) : NiceD (.str z) 8 := by
  have hs := name_signs h
  refine ⟨by simp only [PyData.showable], ?_, by simp only [PyData.hasDict], by simp only [PyData.depth]; omega, ?_, ?_⟩
  · simp only [PyData.leavesShort, List.all_eq_true, decide_eq_true_eq]
    exact fun c hc => Nat.lt_trans (abc_lt c (hs c hc)) (by decide)
  · simp only [PyData.bulk]
    exact (nameT_len h).2
  · simp only [PyData.canLay0]
    show z.cps.all (fun c => decide (c < 0x110000)) = true
    rw [← Array.all_toList, List.all_eq_true]
    exact fun c hc => decide_eq_true (Nat.lt_trans (abc_lt c (hs c hc)) (by decide))
theorem nice_names : ∀ {zs : List Str}, (∀ z ∈ zs, nameT z = true) → NiceA (zs.map PyData.str) (9 * zs.length)
  | [], _ => NiceA.nil
  | z :: r, h => by
    have a := nice_name (h z List.mem_cons_self)
    have b := nice_names fun y hy => h y (List.mem_cons_of_mem _ hy)
    have c := NiceA.cons a (by simp only [PyData.depth]; omega) b
    rw [List.map_cons, List.length_cons]
    have e : 9 * (r.length + 1) = 8 + 1 + 9 * r.length := by omega
    rw [e]
    exact c
/-- notes as the law draws them -/
def NoteOk (zs : List Str) (n : Str × Int) : Prop := n.1 ∈ zs ∧ Amt n.2
theorem amt_big {n : Int} (h : Amt n) : BigOk n := by
  have h1 := h.1
  have h2 := h.2
  have e : (10 : Int) ^ 58 < 2 ^ 300 := by decide
  have e2 : ((2 ^ 300 : Nat) : Int) = 2 ^ 300 := by decide
  unfold BigOk
  omega
theorem nice_note {zs : List Str} (hz : ∀ z ∈ zs, nameT z = true) {n : Str × Int} (h : NoteOk zs n) : NiceD (noteD n) 10 ∧ (noteD n).depth ≤ 1 := by
  have a := NiceA.cons (nice_name (hz _ h.1)) (by simp only [PyData.depth]; omega) (NiceA.cons (nice_int (amt_big h.2)) (by simp only [PyData.depth]; omega) NiceA.nil)
  exact ⟨a.tuple, by simp [noteD, PyData.depth, PyData.depthAll]⟩
theorem nice_notes {zs : List Str} (hz : ∀ z ∈ zs, nameT z = true) : ∀ {l : List (Str × Int)}, (∀ n ∈ l, NoteOk zs n) → NiceA (notesD l) (11 * l.length)
  | [], _ => NiceA.nil
  | n :: r, h => by
    obtain ⟨a, hd⟩ := nice_note hz (h n List.mem_cons_self)
    have b := nice_notes hz fun y hy => h y (List.mem_cons_of_mem _ hy)
    have c := NiceA.cons a (by omega) b
    rw [List.length_cons]
    have e : 11 * (r.length + 1) = 10 + 1 + 11 * r.length := by omega
    rw [e]
    exact c
theorem nice_fits {d : PyData} {n : Nat} (h : NiceD d n) (hn : n ≤ 8000) : (∃ i, d = .int i) ∨ d.shown.length ≤ sizeLine := by
  have h1 := PyData.shown_le_bulk 1921 (by decide) d h.lv
  have h2 := h.bk
  refine .inr ?_
  rw [sizeLine_eq]
  have : (1921 + 2) * d.bulk ≤ 1923 * 8000 := Nat.mul_le_mul (Nat.le_refl _) (by omega)
  omega
theorem nice_shaped {d : PyData} {n : Nat} (h : NiceD d n) : SeqAt.shaped d = true := by
  unfold SeqAt.shaped
  rw [h.cl, decide_eq_true (show d.depth ≤ 64 by have := h.dp; omega)]
  rfl
/-! ### where nothing has fallen -/
theorem part_zero {a : Int} (h : 1 ≤ a) : partOf a 0 = 0 := by
  unfold partOf
  rw [if_pos (by omega)]
theorem gone_zero : ∀ {l : List (Str × Int)}, (∀ n ∈ l, 1 ≤ n.2) → goneN l 0 = []
  | [], _ => rfl
  | (t, a) :: r, h => by
    rw [goneN_cons, part_zero (h _ List.mem_cons_self), if_neg (by omega), Int.sub_zero, gone_zero fun n hn => h n (List.mem_cons_of_mem _ hn)]
    rfl
theorem left_zero : ∀ {l : List (Str × Int)}, (∀ n ∈ l, 1 ≤ n.2) → leftN l 0 = l
  | [], _ => rfl
  | (t, a) :: r, h => by
    have ha : 1 ≤ a := h _ List.mem_cons_self
    rw [leftN_cons, part_zero ha, if_pos (by omega), Int.sub_zero, Int.sub_zero, left_zero fun n hn => h n (List.mem_cons_of_mem _ hn)]
    rfl
/-- a model as the law makes it: nothing fallen, k deeds at the most -/
structure Gd (zs : List Str) (D : Md) (k : Nat) : Prop where
  zf : D.fallen = zeros zs.length
  nt : ∀ l ∈ D.notes, ∀ n ∈ l, NoteOk zs n
  gv : ∀ g ∈ D.given, 0 ≤ g ∧ g ≤ (k : Int) * 10 ^ 58
  my : (D.notes.map List.length).sum ≤ k
  k1 : k ≤ 60
theorem Gd.big {zs : List Str} {D : Md} {k : Nat} (h : Gd zs D k) {g : Int} (hg : g ∈ D.given) : BigOk g := by
  obtain ⟨a, b⟩ := h.gv g hg
  have k1 := h.k1
  have e : (60 : Int) * 10 ^ 58 < 2 ^ 300 := by decide
  have e2 : ((2 ^ 300 : Nat) : Int) = 2 ^ 300 := by decide
  have : (k : Int) * 10 ^ 58 ≤ 60 * 10 ^ 58 := Int.mul_le_mul_of_nonneg_right (by omega) (by decide)
  unfold BigOk
  omega
theorem Gd.rows {zs : List Str} {D : Md} {k : Nat} (h : Gd zs D k) : RowsOk D := fun l hl => by
  have := len_le_sum hl
  have := h.my
  have := h.k1
  omega
theorem Gd.sums {zs : List Str} {D : Md} {k : Nat} (h : Gd zs D k) (z : Str) : sumsD D z = 0 := by
  unfold sumsD
  have : ∀ p ∈ D.notes.zip D.fallen, sumTo z (goneN p.1 p.2) = 0 := fun p hp => by
    obtain ⟨h1, h2⟩ := List.of_mem_zip hp
    have e : p.2 = 0 := by
      rw [h.zf] at h2
      exact List.eq_of_mem_replicate h2
    rw [e, gone_zero fun n hn => (h.nt _ h1 n hn).2.1]
    rfl
  generalize D.notes.zip D.fallen = L at this
  induction L with
  | nil => rfl
  | cons a r ih =>
    rw [List.map_cons, List.sum_cons, this a List.mem_cons_self, ih fun p hp => this p (List.mem_cons_of_mem _ hp)]
    rfl
theorem Gd.done {zs : List Str} {D : Md} {k : Nat} (h : Gd zs D k) {d : Deed} (od : d.Ok zs) (hk : k + 1 ≤ 60) (ln : D.notes.length = zs.length) (lg : D.given.length = zs.length) : Gd zs (doneD zs D d) (k + 1) := by
  have mono : ∀ g ∈ D.given, 0 ≤ g ∧ g ≤ ((k + 1 : Nat) : Int) * 10 ^ 58 := fun g hg => by
    obtain ⟨a, b⟩ := h.gv g hg
    refine ⟨a, Int.le_trans b (Int.mul_le_mul_of_nonneg_right (by omega) (by decide))⟩
  cases d with
  | give z n =>
    refine ⟨h.zf, h.nt, fun g hg => ?_, Nat.le_succ_of_le h.my, hk⟩
    rcases List.mem_or_eq_of_mem_set hg with hg | hg
    · exact mono g hg
    · have hj : zs.idxOf z < D.given.length := by
        rw [lg]
        exact List.idxOf_lt_length_of_mem od.1
      obtain ⟨a, b⟩ := h.gv (D.given.getD (zs.idxOf z) 0) (by
        rw [List.getD_eq_getElem?_getD, List.getElem?_eq_getElem hj]
        exact List.getElem_mem hj)
      obtain ⟨n1, n2⟩ := od.2
      have e : ((k + 1 : Nat) : Int) * 10 ^ 58 = (k : Int) * 10 ^ 58 + 10 ^ 58 := by
        rw [Int.natCast_add, Int.add_mul]
        rfl
      rw [hg, e]
      omega
  | put z y n =>
    have hj : zs.idxOf z < D.notes.length := by
      rw [ln]
      exact List.idxOf_lt_length_of_mem od.1
    refine ⟨h.zf, fun l hl m hm => ?_, mono, ?_, hk⟩
    · rcases List.mem_or_eq_of_mem_set hl with hl | hl
      · exact h.nt l hl m hm
      · rw [hl] at hm
        rcases List.mem_append.mp hm with hm | hm
        · refine h.nt (D.notes.getD (zs.idxOf z) []) ?_ m hm
          rw [List.getD_eq_getElem?_getD, List.getElem?_eq_getElem hj]
          exact List.getElem_mem hj
        · rw [List.mem_singleton.mp hm]
          exact od.2
    · have := sum_set D.notes (zs.idxOf z) (D.notes.getD (zs.idxOf z) [] ++ [(y, n)]) hj
      rw [List.length_append] at this
      have e1 : [(y, n)].length = 1 := rfl
      have := h.my
      show ((D.notes.set _ _).map List.length).sum ≤ k + 1
      omega
theorem Gd.new {zs : List Str} : Gd zs (newMd zs.length) 0 := by
  refine ⟨rfl, fun l hl n hn => ?_, fun g hg => ?_, ?_, by decide⟩
  · rw [List.eq_of_mem_replicate hl] at hn
    cases hn
  · rw [List.eq_of_mem_replicate hg]
    exact ⟨Int.le_refl _, by simp⟩
  · show ((List.replicate zs.length ([] : List (Str × Int))).map List.length).sum ≤ 0
    rw [List.map_replicate]
    simp
theorem Gd.ok {zs : List Str} {D : Md} {k : Nat} (h : Gd zs D k) (nz : NamesOk zs) (lg : D.given.length = zs.length) (ln : D.notes.length = zs.length) : (bkOf zs D).Ok := by
  refine ⟨nz.n0, nz.n1, nz.nd, nz.nm, lg, ln, ?_, ?_⟩
  · show D.fallen.length = _
    rw [h.zf]
    exact List.length_replicate
  · have := h.my
    have := h.k1
    show (D.notes.map List.length).sum ≤ 60
    omega
theorem DpAll.strs {K : PySem.W.Frag} {H : Hp} : ∀ zs : List Str, DpAll K H (zs.map V.str) (zs.map PyData.str)
  | [] => .nil
  | z :: r => .cons (.str z) (DpAll.strs r)
end Rc

namespace Rc
open PySem PySem.Spec PyProof.Rows L2 RZ
theorem Pot.ne {H : Hp} {p b : Addr} (h : Pot H p) (n : H b = none) : b ≠ p := by
  obtain ⟨x, y, e, _⟩ := h
  exact (ne_of_none e n).symm
def rListS (K : PySem.W.Frag) : List V → Hp → VK → Prop := fun xs H Q => ∃ p ys, xs = [.ref p] ∧ (SqL K H p ys ∨ SqT K H p ys) ∧ ∀ l, H l = none → Q (.ref l) (upd H l (.lst ys))
theorem call_listS {X : Cx} {K : PySem.W.Frag} (e : X.K = K) : CallR X (.type "list") (rListS K) := by
  subst e
  exact call_list_of
/-- a def that is called, no repr being under way -/
structure HasG (P : Program) (w : World) (K : PySem.W.Frag) (mg : Str → Option Value) (base : Heap) (k : Nat) (nm : Str) (ps : List Str) (sp : Sp) (f : Addr) (fd : FuncData) : Prop where
  ok : FnG P w K mg base CX0 k f fd ps sp
  g : mg nm = some (.ref f)
  kp : PySem.W.keepIn K (.ref f) = true
  b : Binds K fd ps []
mutual
theorem Dt.dp {K : PySem.W.Frag} {H : Hp} : ∀ {v : V} (d : PyData), tupD d = true → Dt K H v d → Dp K H v d
  | _, .none, _, h => by cases h; exact .non
  | _, .bool _, _, h => by cases h; exact .bl _
  | _, .int _, _, h => by cases h; exact .int _
  | _, .str _, _, h => by cases h; exact .str _
  | _, .list ds, t, h => by simp [tupD] at t
  | _, .dict ps, t, h => by simp [tupD] at t
  | _, .tuple ds, t, h => by
    cases h with
    | tup q a => exact .tup q (DtAll.dp ds (by simpa [tupD] using t) a)
theorem DtAll.dp {K : PySem.W.Frag} {H : Hp} : ∀ {vs : List V} (ds : List PyData), tupDs ds = true → DtAll K H vs ds → DpAll K H vs ds
  | _, [], _, h => by cases h; exact .nil
  | _, d :: ds, t, h => by
    cases h with
    | cons a b =>
      have t' : tupD d = true ∧ tupDs ds = true := by simpa [tupDs] using t
      exact .cons (Dt.dp d t'.1 a) (DtAll.dp ds t'.2 b)
end
theorem tup_key (M : Bk) : tupD (keyD M) = true := by
  have h1 := tup_strs M.names
  have h2 := tup_ints M.gifts
  have h3 := tup_stacks M.stacks
  have h4 := tup_ints M.drops
  unfold keyD
  simp only [tupD, tupDs] at *
  simp [h1, h2, h3, h4]
theorem lay_map {α : Type} {f : α → PyData} : ∀ {l : List α}, (∀ x ∈ l, (f x).canLay0 = true) → PyData.canLayAll0 (l.map f) = true
  | [], _ => rfl
  | x :: r, h => by
    rw [List.map_cons]
    simp only [PyData.canLayAll0, h x List.mem_cons_self, lay_map fun y hy => h y (List.mem_cons_of_mem _ hy), Bool.and_self]
theorem dep_map {α : Type} {f : α → PyData} {n : Nat} : ∀ {l : List α}, (∀ x ∈ l, (f x).depth ≤ n) → PyData.depthAll (l.map f) ≤ n
  | [], _ => Nat.zero_le _
  | x :: r, h => by
    rw [List.map_cons]
    simp only [PyData.depthAll]
    have h1 := h x List.mem_cons_self
    have h2 := dep_map (f := f) fun y hy => h y (List.mem_cons_of_mem _ hy)
    omega
def KeyOk (M : Bk) : Prop := SeqAt.shaped (keyD M) = true
theorem Gd.key {zs : List Str} {D : Md} {k : Nat} (h : Gd zs D k) (nz : NamesOk zs) : KeyOk (bkOf zs D) := by
  have ln : ∀ n : Str × Int, (noteD n).depth = 1 := fun n => by simp [noteD, PyData.depth, PyData.depthAll]
  have ls : ∀ l, (stackD l).depth ≤ 2 := fun l => by
    unfold stackD notesD
    simp only [PyData.depth]
    have := dep_map (f := noteD) (n := 1) (l := l) fun n _ => Nat.le_of_eq (ln n)
    omega
  have c1 : PyData.canLayAll0 (zs.map .str) = true := (nice_names nz.nm).cl
  have c2 : ∀ l : List Int, PyData.canLayAll0 (l.map .int) = true := fun l => lay_map fun x _ => by simp only [PyData.canLay0]
  have c3 : PyData.canLayAll0 (D.notes.map stackD) = true := lay_map fun l hl => by
    unfold stackD
    simp only [PyData.canLay0]
    exact (nice_notes nz.nm (h.nt l hl)).cl
  unfold KeyOk SeqAt.shaped
  have ec : (keyD (bkOf zs D)).canLay0 = true := by
    show (PyData.tuple [.tuple (zs.map .str), .tuple (D.given.map .int), .tuple (D.notes.map stackD), .tuple (D.fallen.map .int)]).canLay0 = true
    simp only [PyData.canLay0, PyData.canLayAll0, c1, c2, c3, Bool.and_self]
  have ed : (keyD (bkOf zs D)).depth ≤ 64 := by
    show (PyData.tuple [.tuple (zs.map .str), .tuple (D.given.map .int), .tuple (D.notes.map stackD), .tuple (D.fallen.map .int)]).depth ≤ 64
    simp only [PyData.depth, PyData.depthAll]
    have d1 := dep_map (f := PyData.str) (n := 0) (l := zs) fun _ _ => by simp only [PyData.depth]; omega
    have d2 := dep_map (f := PyData.int) (n := 0) (l := D.given) fun _ _ => by simp only [PyData.depth]; omega
    have d3 := dep_map (f := stackD) (n := 2) (l := D.notes) fun l _ => ls l
    have d4 := dep_map (f := PyData.int) (n := 0) (l := D.fallen) fun _ _ => by simp only [PyData.depth]; omega
    omega
  rw [ec, decide_eq_true ed]
  rfl
/-- an elder book and its key -/
def Elder (K : PySem.W.Frag) (C : Addr) (H : Hp) (v : V) : Prop := ∃ t b M kv, v = .ref t ∧ SqT K H t [.ref b, kv] ∧ BookAt K C H b M ∧ KeyOk M ∧ Dt K H kv (keyD M)
theorem Elder.keep {K : PySem.W.Frag} {C : Addr} {H H' : Hp} {v : V} (h : Elder K C H v) (k : Kp H H') : Elder K C H' v := by
  obtain ⟨t, b, M, kv, rfl, q, hb, ko, dk⟩ := h
  refine ⟨t, b, M, kv, rfl, ?_, hb.keep k, ko, Dt.keep k _ (tup_key M) dk⟩
  rcases q with (q | ⟨o, q⟩) | q
  · exact .inl (.inl (k _ _ q trivial))
  · exact .inl (.inr ⟨o, k _ _ q trivial⟩)
  · exact .inr q
theorem But.kpP {p : Addr} {H H' : Hp} (b : But p H H') (hp : Pot H p) : Kp H H' := by
  obtain ⟨x, y, e, _⟩ := hp
  exact b.kp e
theorem kp_same {H H' : Hp} (s : Same H H') : Kp H H' := fun b o e _ => s b o e
theorem mem_cut {xs : List V} {lo hi : Option Int} {v : V} (h : v ∈ cutV xs lo hi) : v ∈ xs := by
  unfold cutV at h
  exact List.mem_of_mem_drop (List.mem_of_mem_take h)
theorem op_eqS {X : Cx} {K : PySem.W.Frag} (e : X.K = K) (hu : X.A.units + 64 < cLine) : OpR X (compareOp .Eq) (rEqD K) := by
  subst e
  exact op_eqD hu
theorem len_zero : ∀ (L : List (List (Str × Int) × Int)), (∀ p ∈ L, p.2 = 0 ∧ ∀ n ∈ p.1, 1 ≤ n.2) → (L.flatMap fun p => leftN p.1 p.2).length = (L.map fun p => p.1.length).sum
  | [], _ => rfl
  | p :: r, h => by
    obtain ⟨e, hn⟩ := h p List.mem_cons_self
    have ih := len_zero r fun q hq => h q (List.mem_cons_of_mem _ hq)
    rw [List.flatMap_cons, List.length_append, ih, e, left_zero hn]
    rfl
theorem Gd.len {zs : List Str} {D : Md} {k : Nat} (h : Gd zs D k) (ln : D.notes.length = zs.length) : lenM (bkOf zs D) = (D.notes.map List.length).sum := by
  show (((D.notes.zip D.fallen).take zs.length).flatMap fun p => leftN p.1 p.2).length = _
  have lf : D.fallen.length = zs.length := by
    rw [h.zf]
    exact List.length_replicate
  rw [List.take_of_length_le (by rw [List.length_zip]; omega), len_zero _ fun p hp => ?_]
  · have : (D.notes.zip D.fallen).map (fun p => p.1.length) = ((D.notes.zip D.fallen).map Prod.fst).map List.length := by
      rw [List.map_map]
      rfl
    rw [this, List.map_fst_zip (by omega)]
  · obtain ⟨h1, h2⟩ := List.of_mem_zip hp
    rw [h.zf] at h2
    exact ⟨List.eq_of_mem_replicate h2, fun n hn => (h.nt _ h1 n hn).2.1⟩
/-- the model behind some deeds -/
def mdAt (zs : List Str) (ds : List Deed) : Md := ds.foldl (doneD zs) (newMd zs.length)
theorem done_lens (zs : List Str) (D : Md) (d : Deed) : (doneD zs D d).given.length = D.given.length ∧ (doneD zs D d).notes.length = D.notes.length := by
  cases d with
  | give z n => exact ⟨List.length_set, rfl⟩
  | put z y n => exact ⟨rfl, List.length_set⟩
theorem md_good (zs : List Str) : ∀ (ds : List Deed), (∀ d ∈ ds, d.Ok zs) → ds.length ≤ 60 → ∀ (D : Md) (k : Nat), Gd zs D k → D.given.length = zs.length → D.notes.length = zs.length → k + ds.length ≤ 60 →
    Gd zs (ds.foldl (doneD zs) D) (k + ds.length)
  | [], _, _, D, k, g, _, _, _ => g
  | d :: ds, h, hl, D, k, g, lg, ln, hk => by
    rw [List.length_cons] at hl hk
    obtain ⟨a, b⟩ := done_lens zs D d
    have := md_good zs ds (fun e he => h e (List.mem_cons_of_mem _ he)) (by omega) (doneD zs D d) (k + 1) (g.done (h d List.mem_cons_self) (by omega) ln lg) (by rw [a, lg]) (by rw [b, ln]) (by omega)
    rw [List.length_cons, Nat.add_comm ds.length 1, ← Nat.add_assoc]
    exact this
theorem md_at_good {zs : List Str} {ds : List Deed} (h : ∀ d ∈ ds, d.Ok zs) (hl : ds.length ≤ 60) : Gd zs (mdAt zs ds) ds.length := by
  have := md_good zs ds h hl (newMd zs.length) 0 Gd.new List.length_replicate List.length_replicate (by omega)
  rw [Nat.zero_add] at this
  exact this
end Rc

namespace Rc
open PySem PySem.Spec PyProof.Rows L2 RZ
theorem md_ext {A B : Md} (h1 : A.given = B.given) (h2 : A.fallen = B.fallen) (h3 : A.notes = B.notes) : A = B := by
  cases A
  cases B
  cases h1
  cases h2
  cases h3
  rfl
section
variable {K : PySem.W.Frag} {H : Hp} {zs : List Str} {a : MdA} {D : Md}
theorem ModelAt.row_some (h : ModelAt K H zs a D) {r : Addr} (m : r ∈ a.rs) : ∃ xs, H r = some (.lst xs) := by
  obtain ⟨i, hi, e'⟩ := List.getElem_of_mem m
  have hn : i < D.notes.length := by
    rw [h.ln, ← h.lr]
    exact hi
  obtain ⟨xs, e1, _⟩ := h.rows i r _ (by rw [List.getElem?_eq_getElem hi, e']) (List.getElem?_eq_getElem hn)
  exact ⟨xs, e1⟩
theorem ModelAt.nofoot (h : ModelAt K H zs a D) {c : Addr} (hc : H c = none) : ¬ a.Foot c := fun f => by
  rcases f with f | f
  · rw [f, h.hg] at hc
    cases hc
  · obtain ⟨xs, e⟩ := h.row_some f
    rw [hc] at e
    cases e
theorem MdA.Foot.has {b : Addr} (h : a.Foot b) : a.Has b := h.elim (fun e => .inr (.inr (.inl e))) (fun e => .inr (.inr (.inr (.inr (.inr e)))))
/-- another sum given -/
theorem ModelAt.setG (hM : ModelAt K H zs a D) {j : Nat} (g : Int) : ModelAt K (upd H a.dg (.dK (dct zs ((D.given.set j g).map V.int)))) zs a { D with given := D.given.set j g } := by
  have bf' : ButF a H (upd H a.dg (.dK (dct zs ((D.given.set j g).map V.int)))) := fun b o nf e => by
    rw [upd_ne (fun z => nf (.inl z))]
    exact e
  have rne : ∀ r ∈ a.rs, r ≠ a.dg := fun r hr z => by
    obtain ⟨xs, e1⟩ := hM.row_some hr
    rw [z, hM.hg] at e1
    cases e1
  have lone : a.lo ≠ a.dg := fun z => by
    have := hM.ho
    rw [z, hM.hg] at this
    cases this
  refine ⟨?_, ?_, ?_, ?_, ?_, fun i r l e1 e2 => ?_, hM.nd, hM.olo, hM.ogf, hM.ogn, hM.ogm, hM.omn, hM.zn, ?_, hM.lf, hM.ln, hM.lr⟩
  · rw [upd_ne hM.ogm.symm]
    exact hM.hm
  · rw [upd_ne lone]
    exact hM.ho
  · rw [upd_same]
  · rw [upd_ne hM.ogf.symm]
    exact hM.hf
  · rw [upd_ne hM.ogn.symm]
    exact hM.hn
  · obtain ⟨xs, e3, d3⟩ := hM.rows i r l e1 e2
    refine ⟨xs, ?_, DtAll.keepT (bf'.kt hM) _ (tup_notes l) d3⟩
    rw [upd_ne (rne r (List.mem_of_getElem? e1))]
    exact e3
  · show (D.given.set _ _).length = _
    rw [List.length_set]
    exact hM.lg
theorem nodup_set {α : Type} : ∀ {l : List α} {j : Nat} {r : α}, l.Nodup → r ∉ l → (l.set j r).Nodup
  | [], _, _, nd, _ => nd
  | x :: t, 0, r, nd, n => List.nodup_cons.mpr ⟨fun h => n (List.mem_cons_of_mem _ h), (List.nodup_cons.mp nd).2⟩
  | x :: t, j + 1, r, nd, n => by
    obtain ⟨h1, h2⟩ := List.nodup_cons.mp nd
    refine List.nodup_cons.mpr ⟨fun h => ?_, nodup_set h2 fun h => n (List.mem_cons_of_mem _ h)⟩
    rcases List.mem_or_eq_of_mem_set h with h | h
    · exact h1 h
    · exact n (by rw [h]; exact List.mem_cons_self)
theorem ModelAt.ofn (h : ModelAt K H zs a D) (n0 : 1 ≤ zs.length) : a.df ≠ a.dn := fun z => by
  have e := h.hf
  rw [z, h.hn] at e
  have e1 : dct zs (a.rs.map V.ref) = dct zs (D.fallen.map V.int) := HO.dK.inj (Option.some.inj e)
  have l1 := h.lr
  have l2 := h.lf
  match zs, a.rs, D.fallen, n0, l1, l2, e1 with
  | z :: r, x :: t, y :: u, _, _, _, e1 => 
    rw [List.map_cons, List.map_cons, dct_cons, dct_cons] at e1
    cases e1
/-- another row of notes -/
theorem ModelAt.setN (hM : ModelAt K H zs a D) {j : Nat} {r : Addr} {xs : List V} {l : List (Str × Int)} (hr : H r = some (.lst xs)) (hd : DtAll K H xs (notesD l)) (nr : r ∉ a.rs) (nlo : a.lo ≠ r) (n0 : 1 ≤ zs.length) :
    ModelAt K (upd H a.dn (.dK (dct zs ((a.rs.set j r).map V.ref)))) zs { a with rs := a.rs.set j r } { D with notes := D.notes.set j l } := by
  have kt : KT H (upd H a.dn (.dK (dct zs ((a.rs.set j r).map V.ref)))) := kt_upd hM.hn fun z => z
  have lne : ∀ {c : Addr} {ys : List V}, H c = some (.lst ys) → c ≠ a.dn := fun {c ys} e z => by
    rw [z, hM.hn] at e
    cases e
  refine ⟨?_, ?_, ?_, ?_, ?_, fun i r' l' e1 e2 => ?_, nodup_set hM.nd nr, fun m => ?_, hM.ogf, hM.ogn, hM.ogm, hM.omn, hM.zn, hM.lg, hM.lf, ?_, ?_⟩
  · show upd H a.dn _ a.m = _
    rw [upd_ne hM.omn]
    exact hM.hm
  · show upd H a.dn _ a.lo = _
    rw [upd_ne (lne hM.ho)]
    exact hM.ho
  · show upd H a.dn _ a.dg = _
    rw [upd_ne hM.ogn]
    exact hM.hg
  · show upd H a.dn _ a.df = _
    rw [upd_ne (hM.ofn n0)]
    exact hM.hf
  · exact upd_same
  · have e1' : (a.rs.set j r)[i]? = some r' := e1
    have e2' : (D.notes.set j l)[i]? = some l' := e2
    by_cases hij : j = i
    · subst hij
      obtain ⟨h1, k1⟩ := List.getElem?_eq_some_iff.mp e1'
      obtain ⟨h2, k2⟩ := List.getElem?_eq_some_iff.mp e2'
      rw [List.getElem_set_self] at k1 k2
      subst k1 k2
      refine ⟨xs, ?_, DtAll.keepT kt _ (tup_notes _) hd⟩
      show upd H a.dn _ _ = _
      rw [upd_ne (lne hr)]
      exact hr
    · rw [List.getElem?_set_ne hij] at e1' e2'
      obtain ⟨ys, e3, d3⟩ := hM.rows i r' l' e1' e2'
      refine ⟨ys, ?_, DtAll.keepT kt _ (tup_notes _) d3⟩
      show upd H a.dn _ _ = _
      rw [upd_ne (lne e3)]
      exact e3
  · have m' : a.lo ∈ a.rs.set j r := m
    rcases List.mem_or_eq_of_mem_set m' with m' | m'
    · exact hM.olo m'
    · exact nlo m'
  · show (D.notes.set _ _).length = _
    rw [List.length_set]
    exact hM.ln
  · show (a.rs.set _ _).length = _
    rw [List.length_set]
    exact hM.lr
end
end Rc

namespace Rc
open PySem PySem.Spec PyProof.Rows L2 RZ
/-! ### trails -/
def trailF (nx : Str → Option Str) : Nat → List Str → Option Str → List Str
  | 0, acc, _ => acc
  | _ + 1, acc, none => acc
  | k + 1, acc, some y => if y ∈ acc then acc else trailF nx k (acc ++ [y]) (nx y)
theorem trailF_none (nx : Str → Option Str) (k : Nat) (acc : List Str) : trailF nx k acc none = acc := by cases k <;> rfl
theorem trailF_in {nx : Str → Option Str} {k : Nat} {acc : List Str} {y : Str} (h : y ∈ acc) : trailF nx k acc (some y) = acc := by
  cases k with
  | zero => rfl
  | succ k =>
    simp only [trailF]
    rw [if_pos h]
theorem trailF_out {nx : Str → Option Str} {k : Nat} {acc : List Str} {y : Str} (h : y ∉ acc) : trailF nx (k + 1) acc (some y) = trailF nx k (acc ++ [y]) (nx y) := by
  simp only [trailF]
  rw [if_neg h]
def trailM (zs : List Str) (nx : Str → Option Str) (z : Str) : List Str := trailF nx zs.length [z] (nx z)
/-- a walk under way -/
structure TrailAt (zs : List Str) (nx : Str → Option Str) (z : Str) (k : Nat) (acc : List Str) (d : Option Str) : Prop where
  fin : trailF nx k acc d = trailM zs nx z
  nd : acc.Nodup
  sub : ∀ y ∈ acc, y ∈ zs
  len : zs.length ≤ acc.length + k
  last : ∃ ini y, acc = ini ++ [y] ∧ d = nx y
  first : ∃ r, acc = z :: r
def Leads (zs : List Str) (nx : Str → Option Str) : Prop := ∀ y x, nx y = some x → x ∈ zs
theorem TrailAt.start {zs : List Str} {nx : Str → Option Str} {z : Str} (h : z ∈ zs) : TrailAt zs nx z zs.length [z] (nx z) :=
  ⟨rfl, by simp, fun y hy => by rw [List.mem_singleton.mp hy]; exact h, by simp, ⟨[], z, rfl, rfl⟩, ⟨[], rfl⟩⟩
theorem TrailAt.step {zs : List Str} {nx : Str → Option Str} {z : Str} {k : Nat} {acc : List Str} {y : Str} (t : TrailAt zs nx z k acc (some y)) (c : Leads zs nx) (h : y ∉ acc) : ∃ k', k = k' + 1 ∧ TrailAt zs nx z k' (acc ++ [y]) (nx y) := by
  have hy : y ∈ zs := by
    obtain ⟨_, x, _, e⟩ := t.last
    exact c x y e.symm
  have nd : (acc ++ [y]).Nodup := by
    rw [List.nodup_append]
    refine ⟨t.nd, by simp, fun a ha b hb e => ?_⟩
    rw [List.mem_singleton.mp hb] at e
    exact h (e ▸ ha)
  have sub : ∀ x ∈ acc ++ [y], x ∈ zs := fun x hx => by
    rcases List.mem_append.mp hx with hx | hx
    · exact t.sub x hx
    · rw [List.mem_singleton.mp hx]
      exact hy
  have ll := nodup_le _ _ nd sub
  rw [List.length_append] at ll
  have l1 : [y].length = 1 := rfl
  have tl := t.len
  cases k with
  | zero => omega
  | succ k =>
    refine ⟨k, rfl, ?_, nd, sub, by rw [List.length_append]; omega, ⟨acc, y, rfl, rfl⟩, ?_⟩
    · rw [← t.fin, trailF_out h]
    · obtain ⟨r, e⟩ := t.first
      exact ⟨r ++ [y], by rw [e]; rfl⟩
theorem TrailAt.stopN {zs : List Str} {nx : Str → Option Str} {z : Str} {k : Nat} {acc : List Str} (t : TrailAt zs nx z k acc none) : acc = trailM zs nx z := by
  rw [← t.fin, trailF_none]
theorem TrailAt.stopI {zs : List Str} {nx : Str → Option Str} {z : Str} {k : Nat} {acc : List Str} {y : Str} (t : TrailAt zs nx z k acc (some y)) (h : y ∈ acc) : acc = trailM zs nx z := by
  rw [← t.fin, trailF_in h]
/-- where a walk has ended -/
structure Ended (zs : List Str) (nx : Str → Option Str) (z : Str) (d : Option Str) : Prop where
  nd : (trailM zs nx z).Nodup
  sub : ∀ y ∈ trailM zs nx z, y ∈ zs
  last : ∃ ini y, trailM zs nx z = ini ++ [y] ∧ d = nx y
  first : ∃ r, trailM zs nx z = z :: r
  back : ∀ y, d = some y → y ∈ trailM zs nx z
theorem TrailAt.ended {zs : List Str} {nx : Str → Option Str} {z : Str} {k : Nat} {acc : List Str} {d : Option Str} (t : TrailAt zs nx z k acc d) (h : d = none ∨ ∃ y, d = some y ∧ y ∈ acc) : acc = trailM zs nx z ∧ Ended zs nx z d := by
  have e : acc = trailM zs nx z := by
    rcases h with rfl | ⟨y, rfl, h⟩
    · exact t.stopN
    · exact t.stopI h
  refine ⟨e, ?_⟩
  refine ⟨by rw [← e]; exact t.nd, by rw [← e]; exact t.sub, by rw [← e]; exact t.last, by rw [← e]; exact t.first, fun y hy => ?_⟩
  rw [← e]
  rcases h with rfl | ⟨x, rfl, h⟩
  · cases hy
  · cases hy
    exact h
theorem walk_ends {zs : List Str} {nx : Str → Option Str} {z : Str} (c : Leads zs nx) : ∀ (k : Nat) (acc : List Str) (d : Option Str), TrailAt zs nx z k acc d → ∃ d', Ended zs nx z d' := fun k => by
  induction k with
  | zero =>
    intro acc d t
    cases d with
    | none => exact ⟨_, (t.ended (.inl rfl)).2⟩
    | some y =>
      by_cases h : y ∈ acc
      · exact ⟨_, (t.ended (.inr ⟨y, rfl, h⟩)).2⟩
      · obtain ⟨k', e, _⟩ := t.step c h
        cases e
  | succ k ih =>
    intro acc d t
    cases d with
    | none => exact ⟨_, (t.ended (.inl rfl)).2⟩
    | some y =>
      by_cases h : y ∈ acc
      · exact ⟨_, (t.ended (.inr ⟨y, rfl, h⟩)).2⟩
      · obtain ⟨k', e, t'⟩ := t.step c h
        cases e
        exact ih _ _ t'
/-- the last person of the trail, and what is due of it -/
def lastM (zs : List Str) (nx : Str → Option Str) (z : Str) : Str := (trailM zs nx z).getLastD z
theorem lastM_eq {zs : List Str} {nx : Str → Option Str} {z y : Str} {ini : List Str} (h : trailM zs nx z = ini ++ [y]) : lastM zs nx z = y := by
  unfold lastM
  rw [h]
  simp
theorem trail_ended {zs : List Str} {nx : Str → Option Str} {z : Str} (c : Leads zs nx) (h : z ∈ zs) : Ended zs nx z (nx (lastM zs nx z)) := by
  obtain ⟨d, e⟩ := walk_ends c _ _ _ (TrailAt.start (nx := nx) h)
  obtain ⟨ini, y, e1, e2⟩ := e.last
  rw [lastM_eq e1, ← e2]
  exact e
theorem Ended.det {zs : List Str} {nx : Str → Option Str} {z : Str} {d : Option Str} (e : Ended zs nx z d) : d = nx (lastM zs nx z) := by
  obtain ⟨ini, y, e1, e2⟩ := e.last
  rw [lastM_eq e1, e2]
/-! ### rings -/
def firstM (zs T : List Str) : Str := (zs.find? fun x => decide (x ∈ T)).getD Str.empty
def ringM (zs : List Str) (nx : Str → Option Str) (z : Str) : Option (List Str) :=
  if nx (lastM zs nx z) = some z then
    some ((trailM zs nx z).drop ((trailM zs nx z).idxOf (firstM zs (trailM zs nx z))) ++ (trailM zs nx z).take ((trailM zs nx z).idxOf (firstM zs (trailM zs nx z))))
  else none
/-- at whom the trail ends -/
def endM (zs : List Str) (nx : Str → Option Str) (z : Str) : Option Str := if nx (lastM zs nx z) = none then some (lastM zs nx z) else none
theorem find_some {zs T : List Str} {z : Str} (h1 : z ∈ zs) (h2 : z ∈ T) : ∃ f r, (zs.filter fun x => decide (x ∈ T)) = f :: r ∧ firstM zs T = f ∧ f ∈ T ∧ f ∈ zs := by
  have hm : z ∈ zs.filter fun x => decide (x ∈ T) := List.mem_filter.mpr ⟨h1, decide_eq_true h2⟩
  cases e : zs.filter fun x => decide (x ∈ T) with
  | nil =>
    rw [e] at hm
    cases hm
  | cons f r =>
    have hf : f ∈ zs.filter fun x => decide (x ∈ T) := by
      rw [e]
      exact List.mem_cons_self
    obtain ⟨a, b⟩ := List.mem_filter.mp hf
    refine ⟨f, r, rfl, ?_, of_decide_eq_true b, a⟩
    unfold firstM
    rw [← List.head?_filter, e]
    rfl
/-- the first by its least place -/
theorem first_min {zs T : List Str} {m : Nat} {z : Str} (nd : zs.Nodup) (hz : zs[m]? = some z) (hT : z ∈ T) (hm : ∀ y ∈ T, m ≤ zs.idxOf y) : firstM zs T = z := by
  unfold firstM
  have hl : m < zs.length := (List.getElem?_eq_some_iff.mp hz).1
  have ez : zs[m] = z := (List.getElem?_eq_some_iff.mp hz).2
  have e : zs.find? (fun x => decide (x ∈ T)) = some z := by
    rw [List.find?_eq_some_iff_getElem]
    refine ⟨decide_eq_true hT, m, hl, ez, fun j hj => ?_⟩
    have hjl : j < zs.length := by omega
    have : ¬ zs[j] ∈ T := fun c => by
      have h1 := hm _ c
      rw [nd.idxOf_getElem j hjl] at h1
      omega
    simp [this]
  rw [e]
  rfl
/-! ### due notes -/
def dueD : Option (Str × Int) → PyData
  | none => .none
  | some n => noteD n
theorem tup_due (o : Option (Str × Int)) : tupD (dueD o) = true := by
  cases o with
  | none => rfl
  | some n => exact tup_note n
def duesM (M : Bk) : List (Option (Str × Int)) := (M.stacks.zip M.drops).map fun p => (leftN p.1 p.2).head?
def nxOf (zs : List Str) (os : List (Option (Str × Int))) (y : Str) : Option Str := (os.getD (zs.idxOf y) none).map (·.1)
def nxV : Option Str → V
  | none => .non
  | some y => .str y
theorem nxV_non {o : Option Str} : nxV o = .non ↔ o = none := by
  cases o with
  | none => simp [nxV]
  | some y => simp [nxV]
theorem leftN_to : ∀ {l : List (Str × Int)} {f : Int} {n : Str × Int}, n ∈ leftN l f → ∃ a, (n.1, a) ∈ l
  | [], _, _, h => by cases h
  | (t, a) :: r, f, n, h => by
    rw [leftN_cons] at h
    rcases List.mem_append.mp h with h | h
    · split at h
      · rw [List.mem_singleton.mp h]
        exact ⟨a, List.mem_cons_self⟩
      · cases h
    · obtain ⟨b, hb⟩ := leftN_to h
      exact ⟨b, List.mem_cons_of_mem _ hb⟩
def Closed (M : Bk) : Prop := ∀ l ∈ M.stacks, ∀ n ∈ l, n.1 ∈ M.names
theorem dues_at {M : Bk} {j : Nat} {l : List (Str × Int)} {f : Int} (h1 : M.stacks[j]? = some l) (h2 : M.drops[j]? = some f) : (duesM M)[j]? = some (leftN l f).head? := by
  unfold duesM
  rw [List.getElem?_map, List.getElem?_zip_eq_some (z := (l, f)) |>.mpr ⟨h1, h2⟩]
  rfl
theorem dues_mem {M : Bk} {n : Str × Int} (h : some n ∈ duesM M) : ∃ l f, l ∈ M.stacks ∧ f ∈ M.drops ∧ n ∈ leftN l f := by
  unfold duesM at h
  obtain ⟨p, hp, e⟩ := List.mem_map.mp h
  obtain ⟨h1, h2⟩ := List.of_mem_zip hp
  exact ⟨p.1, p.2, h1, h2, List.mem_of_head? e⟩
theorem getD_mem {α : Type} {l : List (Option α)} {j : Nat} {x : α} (h : l.getD j none = some x) : some x ∈ l := by
  rw [List.getD_eq_getElem?_getD] at h
  cases e : l[j]? with
  | none =>
    rw [e] at h
    cases h
  | some y =>
    rw [e] at h
    have h' : y = some x := h
    rw [← h']
    exact List.mem_of_getElem? e
theorem Closed.leads {M : Bk} (c : Closed M) : Leads M.names (nxOf M.names (duesM M)) := fun y x h => by
  unfold nxOf at h
  obtain ⟨n, e1, e2⟩ := Option.map_eq_some_iff.mp h
  obtain ⟨l, f, hl, hf, hn⟩ := dues_mem (getD_mem e1)
  obtain ⟨a, ha⟩ := leftN_to hn
  rw [← e2]
  exact c l hl (n.1, a) ha
/-! ### what falls of a due note -/
def wholeN (l : List (Str × Int)) : Int := (l.map (·.2)).sum
theorem wholeN_nonneg {l : List (Str × Int)} (h : ∀ n ∈ l, 1 ≤ n.2) : 0 ≤ wholeN l := by
  induction l with
  | nil => exact Int.le_refl _
  | cons n r ih =>
    have := ih fun m hm => h m (List.mem_cons_of_mem _ hm)
    have h1 := h n List.mem_cons_self
    show 0 ≤ ((n :: r).map (·.2)).sum
    rw [List.map_cons, List.sum_cons]
    have e : wholeN r = (r.map (·.2)).sum := rfl
    omega
theorem wholeN_cons (n : Str × Int) (r : List (Str × Int)) : wholeN (n :: r) = n.2 + wholeN r := by
  unfold wholeN
  rw [List.map_cons, List.sum_cons]
theorem sumTo_one (z t : Str) (a : Int) (h : 0 ≤ a) : sumTo z (if 0 < a then [(t, a)] else []) = if t = z then a else 0 := by
  unfold sumTo
  by_cases h0 : 0 < a
  · rw [if_pos h0]
    by_cases hz : t = z <;> simp [hz]
  · have : a = 0 := by omega
    rw [if_neg h0, this]
    split <;> rfl
theorem sumTo_app (z : Str) (l r : List (Str × Int)) : sumTo z (l ++ r) = sumTo z l + sumTo z r := by
  unfold sumTo
  rw [List.filter_append, List.map_append, List.sum_append]
theorem sumTo_nil (z : Str) : sumTo z [] = 0 := rfl
theorem fall_one : ∀ {l : List (Str × Int)} {f m a : Int} {t : Str} {r : List (Str × Int)}, (∀ n ∈ l, 1 ≤ n.2) → 0 ≤ f → 0 ≤ m → m ≤ a → leftN l f = (t, a) :: r →
    f + m ≤ wholeN l ∧ ∀ z, sumTo z (goneN l (f + m)) = sumTo z (goneN l f) + if t = z then m else 0
  | [], _, _, _, _, _, _, _, _, _, e => by cases e
  | (t0, a0) :: r0, f, m, a, t, r, h, f0, m0, ma, e => by
    have h0 : 1 ≤ a0 := h _ List.mem_cons_self
    have hr : ∀ n ∈ r0, 1 ≤ n.2 := fun n hn => h n (List.mem_cons_of_mem _ hn)
    have wr := wholeN_nonneg hr
    rw [wholeN_cons]
    rw [leftN_cons] at e
    by_cases hf : f < a0
    · have ep : partOf a0 f = f := by
        unfold partOf
        rw [if_pos hf]
      rw [ep, if_pos hf, Int.sub_self] at e
      have e' : (t0, a0 - f) :: leftN r0 0 = (t, a) :: r := e
      injection e' with e1 e2
      injection e1 with e1 e3
      subst e1 e3
      have ep2 : partOf a0 (f + m) = f + m := by
        unfold partOf
        split <;> omega
      refine ⟨by show f + m ≤ a0 + wholeN r0; omega, fun z => ?_⟩
      rw [goneN_cons, goneN_cons, ep, ep2, Int.sub_self, Int.sub_self, gone_zero hr, List.append_nil, List.append_nil, sumTo_one z t0 _ (by omega), sumTo_one z t0 _ f0]
      split <;> omega
    · have ep : partOf a0 f = a0 := by
        unfold partOf
        rw [if_neg hf]
      have ep2 : partOf a0 (f + m) = a0 := by
        unfold partOf
        rw [if_neg (by omega)]
      rw [ep, if_neg (by omega)] at e
      have e' : leftN r0 (f - a0) = (t, a) :: r := e
      obtain ⟨i1, i2⟩ := fall_one hr (by omega) m0 ma e'
      refine ⟨by show f + m ≤ a0 + wholeN r0; omega, fun z => ?_⟩
      rw [goneN_cons, goneN_cons, ep, ep2, sumTo_app, sumTo_app, show f + m - a0 = f - a0 + m by omega, i2 z]
      omega
theorem leftN_ok {zs : List Str} : ∀ {l : List (Str × Int)} {f : Int}, (∀ n ∈ l, NoteOk zs n) → 0 ≤ f → ∀ n ∈ leftN l f, NoteOk zs n
  | [], _, _, _, n, hn => by cases hn
  | (t, a) :: r, f, h, f0, n, hn => by
    have h0 := h _ List.mem_cons_self
    have ha : 1 ≤ a ∧ a ≤ 10 ^ 58 := h0.2
    have hp : 0 ≤ partOf a f ∧ partOf a f ≤ f := by
      unfold partOf
      split <;> omega
    rw [leftN_cons] at hn
    rcases List.mem_append.mp hn with hn | hn
    · split at hn
      · rename_i c
        rw [List.mem_singleton.mp hn]
        exact ⟨h0.1, by show 1 ≤ a - partOf a f; omega, by show a - partOf a f ≤ 10 ^ 58; omega⟩
      · cases hn
    · exact leftN_ok (fun m hm => h m (List.mem_cons_of_mem _ hm)) (by omega) n hn
end Rc

namespace Rc
open PySem PySem.Spec PyProof.Rows L2 RZ
/-! ### what is let fall -/
def moreAt (ps : List (Str × Int)) (z : Str) : Int := ((ps.find? fun p => decide (p.1 = z)).map (·.2)).getD 0
def moreK (ps : List (Str × Int)) : List (Key × V) := ps.map fun p => (Sum.inr p.1, .int p.2)
def fallM (M : Bk) (ps : List (Str × Int)) : Bk := { M with drops := (M.names.zip M.drops).map fun p => p.2 + moreAt ps p.1 }
theorem more_val (z : Str) : ∀ ps : List (Str × Int), (valV (moreK ps) (Sum.inr z : Key)).getD (.int 0) = .int (moreAt ps z)
  | [] => rfl
  | p :: r => by
    have ih := more_val z r
    show (valV ((Sum.inr p.1, V.int p.2) :: moreK r) (Sum.inr z : Key)).getD (.int 0) = .int (moreAt (p :: r) z)
    unfold moreAt
    by_cases h : p.1 = z
    · rw [valV_pos (show ((Sum.inr p.1 : Key), V.int p.2).1 = Sum.inr z from congrArg Sum.inr h), List.find?_cons_of_pos (by simp [h])]
      rfl
    · rw [valV_neg (fun e => h (Sum.inr.inj e)), ih, List.find?_cons_of_neg (by simp [h])]
      rfl
structure FallOk (M : Bk) (ps : List (Str × Int)) : Prop where
  kd : ∀ p ∈ ps, ∃ (j : Nat) (l : List (Str × Int)) (f : Int), M.names[j]? = some p.1 ∧ M.stacks[j]? = some l ∧ M.drops[j]? = some f ∧ 0 ≤ p.2 ∧ f + p.2 ≤ wholeN l
  cs : ∀ (j : Nat) (z : Str), M.names[j]? = some z → 0 ≤ cashM (fallM M ps) j z
theorem fall_ok {M : Bk} (ok : M.Ok) (ps : List (Str × Int)) : (fallM M ps).Ok := by
  refine ⟨ok.n0, ok.n1, ok.nd, ok.nm, ok.lg, ok.ls, ?_, ok.many⟩
  show ((M.names.zip M.drops).map _).length = _
  rw [List.length_map, List.length_zip, ok.ld, Nat.min_self]
  rfl
theorem same_unlock {H H' : Hp} {d : Addr} {od : Obj} {u : HO} (h : H d = some u) (s : Same (upd H d (.frz od u)) H') : Same H (upd H' d u) := fun b o e => by
  by_cases c : b = d
  · rw [c, h] at e
    rw [c, upd_same]
    exact e
  · rw [upd_ne c]
    exact s b o (by rw [upd_ne c]; exact e)
theorem kp_lock {H : Hp} {d : Addr} {od : Obj} {kvs : List (Key × V)} (h : H d = some (.dK kvs)) : Kp H (upd H d (.frz od (.dK kvs))) := fun b o e f => by
  have nb : b ≠ d := fun z => by
    rw [z, h] at e
    cases e
    exact f
  rw [upd_ne nb]
  exact e
section
variable {P : Program} {w : World} {K : PySem.W.Frag} {mg : Str → Option Value} {base : Heap}
/-! ### whole_of -/
abbrev sWhOf : Stmt := inBook 9
abbrev nWhOf : List Str := ["self", "who", "to", "amount"]
theorem scWhOf : FnScope nWhOf ["self", "who"] (defScope sWhOf) := ⟨rfl, rfl, rfl, by decide +kernel, rfl, by decide +kernel, by decide +kernel⟩
theorem ok_whOf {f fn C : Addr} {fd fdn : FuncData} (F : Fun K "whole_of" "Book.whole_of" sWhOf f fd) (T : ClsF K C) (B3 : Blt3 mg) (NT : HasM P w K mg base C 4 "notes" ["self", "who"] (spRow K C fun l _ => l) fn fdn) :
    FnOk P w K mg base CX0 5 f fd ["self", "who"] (spCalc K C fun M j _ => wholeN (M.stacks.getD j [])) := by
  refine F.ok scWhOf (fun vs H Q E h => ?_) (fun cdv A outer s H vs Q E hr h => ?_)
  · obtain ⟨_, _, _, _, rfl, _⟩ := h
    rfl
  · obtain ⟨b, M, z, j, rfl, hb, ok, ej, q⟩ := h
    refine ⟨_, pss_one (ps_ret (pe_callB (cr_sum rfl) (by rfl) B3.sum (by decide +kernel) (pa_cons
          (pe_lc (own := [("to", 2), ("amount", 3)]) (g := gTup K 2 (gCons (gName 2) (gCons (gName 3) gNil))) (tt := tYes) rfl scWhOf.nd (pi_list (pe_meth (pv 0) T.cl NT.m NT.ok hr NT.b .nil pass0 (pa_cons (pv 1) pa_nil))) (blkOk_by (N := nWhOf) (sc := defScope sWhOf) (own := [("to", 2), ("amount", 3)]) (by decide +kernel))
            (fun _ _ _ _ _ => pg_tup rfl (pgs_cons (pg_name (i := 2) scWhOf.nd rfl (.inl rfl) (hf := .inr rfl)) (pgs_cons (pg_name (i := 3) scWhOf.nd rfl (.inl rfl) (hf := .inr rfl)) pgs_nil)))
            (fun _ _ _ _ _ => pts_nil) (fun _ _ _ _ _ => pv 3)) pa_nil))), ?_⟩
    obtain ⟨g, l, d, eg, el, ed, ll⟩ := ok.at_ ej
    obtain ⟨dx, tn, on, wg, ws, wd, e, h1, hn, h2, h3, h4⟩ := hb.ex
    refine ⟨.ref b, rfl, b, dx, _, rfl, e, bf_no (NoF.mk' (by decide +kernel)), .str z, rfl, b, M, z, j, l, d, rfl, hb, ok.names, ej, el, ed, by omega, fun r xs H1 s1 nr hr1 dr => ⟨r, rfl, ⟨_, .inl (.inl hr1)⟩, fun D nD => ?_⟩⟩
    have lx : xs.length = l.length := by
      rw [dr.len]
      unfold notesD
      rw [List.length_map]
    refine lc_it (walk_list (K := K) (a := r) (xs := xs)) (fun i H' => Same H1 H' ∧ H' D = some (.lst ((l.take i).map fun n => .int n.2))) ⟨same_upd nD, upd_same⟩ (fun i H' _ hP => hP.1.seq (.inl (.inl hr1)))
      (fun i x H2' H2 hi hP hY => ?_) (fun H2 hP => ?_)
    · obtain ⟨rfl, hx⟩ := hY
      obtain ⟨hil, dn⟩ := (DtAll.same hP.1 _ dr).notes_get hx
      obtain ⟨na, rfl, qn⟩ := note_inv dn
      refine ⟨na, _, rfl, qn, rfl, _, _, rfl, _, _, rfl, rfl, rfl, _, rfl, _, hP.2, ?_, fun c o ec => ?_, ?_⟩
      · rw [List.length_map, List.length_take]
        exact small1000 (by omega)
      · rw [upd_ne (ne_of_none ec nD)]
        exact hP.1 c o ec
      · rw [upd_same, take_succ hil, List.map_append]
        rfl
    · refine ⟨D, l.map (·.2), rfl, .inl (.inl ?_), ?_⟩
      · rw [hP.2, lx, List.take_length, List.map_map]
        rfl
      have qq : Q (V.int (wholeN (M.stacks.getD j []))) H2 := q H2 (s1.trans hP.1)
      rw [getD_of el] at qq
      exact qq
/-! ### may_fall -/
abbrev sMayF : Stmt := inBook 14
abbrev nMayF : List Str := ["self", "more", "who", "much"]
theorem scMayF : FnScope nMayF ["self", "more"] (defScope sMayF) := ⟨rfl, rfl, rfl, by decide +kernel, rfl, by decide +kernel, by decide +kernel⟩
def spMayF (K : PySem.W.Frag) (C : Addr) : Sp := fun vs H Q _ => ∃ (b d : Addr) (M : Bk) (ps : List (Str × Int)), vs = [.ref b, .ref d] ∧ BookAt K C H b M ∧ M.Ok ∧ H d = some (.dK (moreK ps)) ∧ FallOk M ps ∧ ∀ H', Same H H' → Q (.bl true) H'
theorem ok_mayF {f f1 f2 f3 f4 C : Addr} {fd fd1 fd2 fd3 fd4 : FuncData} (F : Fun K "may_fall" "Book.may_fall" sMayF f fd) (T : ClsF K C) (B : Blt mg) (B3 : Blt3 mg)
    (HS : HasM P w K mg base C 2 "has" ["self", "who"] (spHas K C) f1 fd1) (WH : Has P w K mg base 1 "is_whole" ["thing"] (spBool K wholeD) f2 fd2)
    (FL : HasM P w K mg base C 4 "fallen" ["self", "who"] (spNum K C Bk.drops) f3 fd3) (WO : HasM P w K mg base C 5 "whole_of" ["self", "who"] (spCalc K C fun M j _ => wholeN (M.stacks.getD j [])) f4 fd4) :
    FnOk P w K mg base CX0 6 f fd ["self", "more"] (spMayF K C) := by
  refine F.ok scMayF (fun vs H Q E h => ?_) (fun cdv A outer s H vs Q E hr h => ?_)
  · obtain ⟨_, _, _, _, rfl, _⟩ := h
    rfl
  · obtain ⟨b, d, M, ps, rfl, hb, ok, hd, fo, q⟩ := h
    have hr1 := hr.mono (show 1 ≤ 5 by decide)
    have hr2 := hr.mono (show 2 ≤ 5 by decide)
    have hr4 := hr.mono (show 4 ≤ 5 by decide)
    refine ⟨_, pss_cons (ps_if (pt_not (pt_val (pe_callB call_isi (by rfl) B.isi (by decide +kernel) (pa_cons (pv 1) (pa_cons (pe_bltn (v := .ty "dict") (by rfl) B3.dict (by decide +kernel) rfl) pa_nil))))) (pss_one (ps_ret pe_bl)) pss_nil)
      (pss_cons (ps_lock (ps_for PassesOwn.never rfl (pi_items (pv 1)) (pg_tup rfl (pgs_cons (pg_name (i := 2) scMayF.nd rfl (.inl rfl)) (pgs_cons (pg_name (i := 3) scMayF.nd rfl (.inl rfl)) pgs_nil)))
        (pss_cons (ps_if (PW.pt (pw_or (pt_not (pt_val (pe_meth (pv 0) T.cl HS.m HS.ok hr2 HS.b .nil pass0 (pa_cons (pv 2) pa_nil)))) (pw_or (pt_not (pt_val (pe_call WH.ok hr1 (by rfl) WH.g WH.kp WH.b .nil pass0 (pa_cons (pv 3) pa_nil))))
          (pw_or1 (pt_cmpR op_lt (pv 3) pe_int (nomark _)))))) (pss_one (ps_ret pe_bl)) pss_nil)
        (pss_one (ps_if (pt_cmpR op_gt (pe_op op_add (pe_meth (pv 0) T.cl FL.m FL.ok hr4 FL.b .nil pass0 (pa_cons (pv 2) pa_nil)) (pv 3)) (pe_meth (pv 0) T.cl WO.m WO.ok hr WO.b .nil pass0 (pa_cons (pv 2) pa_nil)) (nomark _)) (pss_one (ps_ret pe_bl)) pss_nil)))))
      (pss_one (ps_ret pe_bl))), ?_⟩
    refine ⟨.ref d, rfl, _, .ty "dict", _, _, true, rfl, .ty "dict", .base (.dK hd), kit_ty (by decide +kernel), _, rfl, iteF ?_⟩
    refine ⟨d, _, hd, trivial, fun od => ?_⟩
    have hbL := hb.keep (kp_lock (od := od) hd)
    obtain ⟨dx, tn, on, wg, ws, wd, e, h1, hn, h2, h3, h4⟩ := hbL.ex
    have hdL : upd H d (.frz od (.dK (moreK ps))) d = some (.frz od (.dK (moreK ps))) := upd_same
    have un : ∀ H', Same (upd H d (.frz od (.dK (moreK ps)))) H' → Same H (upd H' d (.dK (moreK ps))) := fun H' s' => same_unlock hd s'
    generalize upd H d (.frz od (.dK (moreK ps))) = HL at hbL e h1 h2 h3 h4 hdL un
    refine ⟨.ref d, rfl, d, od, _, rfl, hdL, ?_⟩
    refine for_it (walk_items (kvs := moreK ps)) (fun i σ H' => ∃ y2 y3, σ = [some (.ref b), some (.ref d), y2, y3] ∧ Same HL H') ⟨_, _, rfl, Same.refl _⟩ (fun i σ H' _ hP => ?_) (fun i x σ H1' H1 hi hP hY => ?_) (fun σ H' hP => ?_)
    · obtain ⟨_, _, _, s1⟩ := hP
      exact s1 _ _ hdL
    · obtain ⟨Tt, x1, x2, rfl, nT, rfl, e1, e2⟩ := hY
      obtain ⟨y2, y3, rfl, s1⟩ := hP
      have hi' : i < ps.length := by
        unfold moreK at hi
        rw [List.length_map] at hi
        exact hi
      have ek : (moreK ps)[i]? = some (Sum.inr ps[i].1, V.int ps[i].2) := by
        unfold moreK
        rw [List.getElem?_map, List.getElem?_eq_getElem hi']
        rfl
      have e1' : (moreK ps)[i]?.map (fun kv => kV kv.1) = some x1 := e1
      have e2' : (moreK ps)[i]?.map Prod.snd = some x2 := e2
      rw [ek] at e1' e2'
      have ex1 : x1 = .str ps[i].1 := (Option.some.inj e1').symm
      have ex2 : x2 = .int ps[i].2 := (Option.some.inj e2').symm
      subst ex1 ex2
      obtain ⟨j, l, fl, ej, el, ef, m0, mw⟩ := fo.kd _ (List.getElem_mem hi')
      generalize ps[i] = pm at ej m0 mw nT s1
      obtain ⟨z, m⟩ := pm
      have s2 := s1.trans (same_upd (o := .tup [V.str z, V.int m]) nT)
      have hT : upd H1' Tt (.tup [V.str z, V.int m]) Tt = some (.tup [V.str z, V.int m]) := upd_same
      generalize upd H1' Tt (.tup [V.str z, V.int m]) = H2 at s2 hT
      refine ⟨Tt, [.str z, .int m], rfl, .inl (.inl hT), rfl, _, _, rfl, _, _, rfl, rfl, ?_⟩
      have hm : z ∈ M.names := List.mem_of_getElem? ej
      have lz := (nameT_len (ok.nm z hm)).2
      refine ⟨.ref b, rfl, b, dx, _, rfl, s2 _ _ e, bf_no (NoF.mk' (by decide +kernel)), .str z, rfl, b, M, .str z, .str z, rfl, book_same hbL s2, ok.names, .str z, (fun y ey => by cases ey; omega), fun H3 s3 => ⟨_, rfl, ?_⟩⟩
      have eh : hasD M (.str z) = true := decide_eq_true hm
      rw [eh]
      refine iteF ⟨.int m, rfl, .int m, .int m, rfl, .int m, (fun y ey => by cases ey), fun H4 s4 => ⟨_, rfl, iteF ⟨.int m, rfl, _, _, rfl, rfl, _, rfl, ?_⟩⟩⟩
      rw [show decide (m < 0) = false from decide_eq_false (by have : (0 : Int) ≤ m := m0; omega)]
      have s24 := s2.trans (s3.trans s4)
      refine iteF ⟨.ref b, rfl, b, dx, _, rfl, s24 _ _ e, bf_no (NoF.mk' (by decide +kernel)), .str z, rfl, b, M, z, j, fl, rfl, book_same hbL s24, ok.names, ej, ef, fun H5 s5 => ⟨.int m, rfl, fl, m, rfl, rfl, ?_⟩⟩
      have s25 := s24.trans s5
      refine ⟨.ref b, rfl, b, dx, _, rfl, s25 _ _ e, bf_no (NoF.mk' (by decide +kernel)), .str z, rfl, b, M, z, j, rfl, book_same hbL s25, ok, ej, fun H6 s6 => ⟨_, _, rfl, rfl, _, rfl, ?_⟩⟩
      show if decide (wholeN (M.stacks.getD j []) < fl + m) = true then _ else _
      rw [getD_of el, show decide (wholeN l < fl + m) = false from decide_eq_false (by have : fl + m ≤ wholeN l := mw; omega)]
      exact iteF ⟨_, _, rfl, s25.trans s6⟩
    · obtain ⟨_, _, rfl, s1⟩ := hP
      exact ⟨s1 _ _ hdL, q _ (un _ s1)⟩
/-! ### let_fall -/
abbrev sLetF : Stmt := inBook 15
abbrev nLetF : List Str := ["self", "more", "who", "drops", "other"]
theorem scLetF : FnScope nLetF ["self", "more"] (defScope sLetF) := ⟨rfl, rfl, rfl, by decide +kernel, rfl, by decide +kernel, by decide +kernel⟩
def spLetF (K : PySem.W.Frag) (C : Addr) : Sp := fun vs H Q _ => ∃ (b d : Addr) (M : Bk) (ps : List (Str × Int)), vs = [.ref b, .ref d] ∧ BookAt K C H b M ∧ M.Ok ∧ H d = some (.dK (moreK ps)) ∧ FallOk M ps ∧
  ∀ b' H', Same H H' → H b' = none → BookAt K C H' b' (fallM M ps) → Q (.ref b') H'
theorem ok_letF {f f1 f2 f3 f4 C : Addr} {fd fd1 fd2 fd3 fd4 : FuncData} (F : Fun K "let_fall" "Book.let_fall" sLetF f fd) (T : ClsF K C) (B3 : Blt3 mg)
    (MF : HasM P w K mg base C 6 "may_fall" ["self", "more"] (spMayF K C) f1 fd1) (FL : HasM P w K mg base C 4 "fallen" ["self", "who"] (spNum K C Bk.drops) f2 fd2)
    (WT : HasM P w K mg base C 5 "with_these" ["self", "gifts", "stacks", "drops"] (spWith K C) f3 fd3) (CS : HasM P w K mg base C 5 "cash" ["self", "who"] (spCalc K C cashM) f4 fd4) :
    FnOk P w K mg base CX0 7 f fd ["self", "more"] (spLetF K C) := by
  refine F.ok scLetF (fun vs H Q E h => ?_) (fun cdv A outer s H vs Q E hr h => ?_)
  · obtain ⟨_, _, _, _, rfl, _⟩ := h
    rfl
  · obtain ⟨b, d, M, ps, rfl, hb, ok, hd, fo, q⟩ := h
    have hu := hu_of hr
    have hr4 := hr.mono (show 4 ≤ 6 by decide)
    have hr5 := hr.mono (show 5 ≤ 6 by decide)
    refine ⟨_, pss_cons (ps_if (pt_not (pt_val (pe_meth (pv 0) T.cl MF.m MF.ok hr MF.b .nil pass0 (pa_cons (pv 1) pa_nil)))) pss_never pss_nil)
      (pss_cons (ps_set (i := 3) scLetF.nd rfl (.inl rfl) (pe_callTy call_tupD (by rfl) B3.tuple (by decide +kernel) (pa_cons
          (pe_lc (own := [("who", 2)]) (g := gName 2) (tt := tYes) rfl scLetF.nd (pi_tup (pe_fld (pv 0) rfl)) (blkOk_by (N := nLetF) (sc := defScope sLetF) (own := [("who", 2)]) (by decide +kernel))
            (fun _ _ _ _ _ => pg_name (i := 2) scLetF.nd rfl (.inl rfl) (hf := .inr rfl)) (fun _ _ _ _ _ => pts_nil)
            (fun _ _ _ _ _ => pe_op op_add (pe_meth (pv 0) T.cl FL.m FL.ok hr4 FL.b .nil pass0 (pa_cons (pv 2) pa_nil)) (pe_dget2 hu (pv 1) (pv 2) pe_int ⟨rfl, rfl, rfl, rfl⟩))) pa_nil)))
      (pss_cons (ps_set (i := 4) scLetF.nd rfl (.inl rfl) (pe_meth (pv 0) T.cl WT.m WT.ok hr5 WT.b .nil pass0 (pa_cons (pe_fld (pv 0) rfl) (pa_cons (pe_fld (pv 0) rfl) (pa_cons (pv 3) pa_nil)))))
      (pss_cons (ps_for PassesOwn.never rfl (pi_tup (pe_fld (pv 0) rfl)) (pg_name (i := 2) scLetF.nd rfl (.inl rfl))
        (pss_one (ps_if (pt_cmpR op_lt (pe_meth (pv 4) T.cl CS.m CS.ok hr5 CS.b .nil pass0 (pa_cons (pv 2) pa_nil)) pe_int (nomark _)) pss_never pss_nil)))
      (pss_one (ps_ret (pv 4)))))), ?_⟩
    obtain ⟨dx, tn, on, wg, ws, wd, e, h1, hn, h2, h3, h4⟩ := hb.ex
    refine ⟨.ref b, rfl, b, dx, _, rfl, e, bf_no (NoF.mk' (by decide +kernel)), .ref d, rfl, b, d, M, ps, rfl, hb, ok, hd, fo, fun H1 s1 => ⟨_, rfl, iteF ?_⟩⟩
    have qn : SqT K H tn (M.names.map V.str) := .inl (.inr ⟨on, h1⟩)
    refine ⟨.ref b, rfl, b, C, dx, _, _, rfl, s1 _ _ e, T.cl, T.n1, bf_names, tn, rfl, ⟨_, same_seqT s1 qn⟩, fun D nD => ?_⟩
    have lnm : (M.names.map V.str).length = M.names.length := List.length_map ..
    have lzp : (M.names.zip M.drops).length = M.names.length := by rw [List.length_zip, ok.ld, Nat.min_self]
    have n12 := ok.n1
    refine lc_it (walk_tup (K := K) (a := tn) (xs := M.names.map V.str)) (fun i H' => Same H1 H' ∧ H' D = some (.lst ((((M.names.zip M.drops).take i).map fun p => p.2 + moreAt ps p.1).map V.int))) ⟨same_upd nD, upd_same⟩ (fun i H' _ hP => same_seqT hP.1 (same_seqT s1 qn))
      (fun i x H2' H2 hi hP hY => ?_) (fun H2 hP => ?_)
    · obtain ⟨rfl, hx⟩ := hY
      rw [lnm] at hi
      have hid : i < M.drops.length := by rw [ok.ld]; exact hi
      have ex : x = .str M.names[i] := by
        rw [List.getElem?_map, List.getElem?_eq_getElem hi] at hx
        exact (Option.some.inj hx).symm
      subst ex
      have s12 := s1.trans hP.1
      refine ⟨rfl, .ref b, rfl, b, dx, _, rfl, s12 _ _ e, bf_no (NoF.mk' (by decide +kernel)), _, rfl, b, M, _, i, _, rfl, book_same hb s12, ok.names, List.getElem?_eq_getElem hi, List.getElem?_eq_getElem hid, fun H3 s3 => ?_⟩
      have s13 := s12.trans s3
      refine ⟨.ref d, rfl, d, rfl, .inl ⟨_, .inl (s13 _ _ hd)⟩, _, rfl, _, DGet.k (k := Sum.inr M.names[i]) (s13 _ _ hd), ?_⟩
      rw [more_val]
      refine ⟨_, _, rfl, rfl, _, s3 _ _ hP.2, ?_, fun c o ec => ?_, ?_⟩
      · rw [List.length_map, List.length_map, List.length_take]
        exact small1000 (by omega)
      · rw [upd_ne (ne_of_none ec nD)]
        exact s3 _ _ (hP.1 c o ec)
      · have tk : (M.names.zip M.drops).take (i + 1) = (M.names.zip M.drops).take i ++ [(M.names[i], M.drops[i])] := by
          rw [List.take_add_one, List.getElem?_zip_eq_some (z := (M.names[i], M.drops[i])) |>.mpr ⟨List.getElem?_eq_getElem hi, List.getElem?_eq_getElem hid⟩]
          rfl
        rw [upd_same, tk, List.map_append, List.map_append]
        rfl
    · obtain ⟨s2, hD⟩ := hP
      rw [lnm, List.take_of_length_le (by rw [lzp]; exact Nat.le_refl _)] at hD
      have ed : ((M.names.zip M.drops).map fun p => p.2 + moreAt ps p.1) = (fallM M ps).drops := rfl
      rw [ed] at hD
      refine ⟨.ref D, ((fallM M ps).drops).map .int, rfl, .lst (.inl (.inl hD)) (DtAll.ints _), fun t H3 s3 dt => ?_⟩
      have s13 := s1.trans (s2.trans s3)
      refine ⟨.ref b, rfl, b, dx, _, rfl, s13 _ _ e, bf_no (NoF.mk' (by decide +kernel)), .ref b, rfl, b, C, dx, _, _, rfl, s13 _ _ e, T.cl, T.n2, bf_gifts, .ref b, rfl, b, C, dx, _, _, rfl, s13 _ _ e, T.cl, T.n3, bf_stacks, t, rfl,
        b, M, _, _, _, M.gifts, M.stacks, (fallM M ps).drops, rfl, book_same hb s13, ok.names, Dt.same s13 _ h2, Dt.same s13 _ h3, dt, fun b' H4 s4 nb hb' => ?_⟩
      have s14 := s13.trans s4
      have hb4 : BookAt K C H4 b' (fallM M ps) := hb'
      refine ⟨.ref b, rfl, b, C, dx, _, _, rfl, s14 _ _ e, T.cl, T.n1, bf_names, tn, rfl, ⟨_, same_seqT s14 qn⟩, ?_⟩
      obtain ⟨dx2, tn2, on2, vg2, vs2, vd2, e2, k1, kn, k2, k3, k4⟩ := hb4.ex
      refine for_it (walk_tup (K := K) (a := tn) (xs := M.names.map V.str)) (fun i σ H' => ∃ y2, σ = [some (.ref b), some (.ref d), y2, some t, some (.ref b')] ∧ Same H4 H') ⟨_, rfl, Same.refl _⟩ (fun i σ H' _ hP => ?_) (fun i x σ H5' H5 hi hP hY => ?_) (fun σ H' hP => ?_)
      · obtain ⟨_, _, s5⟩ := hP
        exact same_seqT s5 (same_seqT s14 qn)
      · obtain ⟨rfl, hx⟩ := hY
        obtain ⟨y2, rfl, s5⟩ := hP
        rw [lnm] at hi
        have ex : x = .str M.names[i] := by
          rw [List.getElem?_map, List.getElem?_eq_getElem hi] at hx
          exact (Option.some.inj hx).symm
        subst ex
        have ei : M.names[i]? = some M.names[i] := List.getElem?_eq_getElem hi
        refine ⟨.ref b', rfl, b', dx2, _, rfl, s5 _ _ e2, bf_no (NoF.mk' (by decide +kernel)), _, rfl, b', fallM M ps, _, i, rfl, book_same hb4 s5, fall_ok ok ps, ei, fun H6 s6 => ⟨_, _, rfl, rfl, _, rfl, ?_⟩⟩
        have c0 := fo.cs i _ ei
        rw [show decide (cashM (fallM M ps) i M.names[i] < 0) = false from decide_eq_false (by omega)]
        exact iteF ⟨_, rfl, s5.trans s6⟩
      · obtain ⟨y2, rfl, s5⟩ := hP
        exact ⟨.ref b', rfl, q b' H' (s14.trans s5) (s13.free nb) (book_same hb4 s5)⟩
end
end Rc

namespace Rc
open PySem PySem.Spec PyProof.Rows L2 RZ
theorem due_inv {K : PySem.W.Frag} {H : Hp} {v : V} {o : Option (Str × Int)} (h : Dt K H v (dueD o)) : (o = none ∧ v = .non) ∨ ∃ n a, o = some n ∧ v = .ref a ∧ SqT K H a [.str n.1, .int n.2] := by
  cases o with
  | none =>
    cases h
    exact .inl ⟨rfl, rfl⟩
  | some n =>
    obtain ⟨a, e, q⟩ := note_inv h
    exact .inr ⟨n, a, rfl, e, q⟩
theorem dues_len {M : Bk} (ok : M.Ok) : (duesM M).length = M.names.length := by
  unfold duesM
  rw [List.length_map, List.length_zip, ok.ls, ok.ld, Nat.min_self]
/-- a dict of due notes -/
structure DuesAt (K : PySem.W.Frag) (H : Hp) (d : Addr) (zs : List Str) (os : List (Option (Str × Int))) : Prop where
  ex : ∃ vs, Rd H d (.dK (dct zs vs)) ∧ DtAll K H vs (os.map dueD)
theorem DuesAt.same {K : PySem.W.Frag} {H H' : Hp} {d : Addr} {zs : List Str} {os : List (Option (Str × Int))} (h : DuesAt K H d zs os) (s : Same H H') : DuesAt K H' d zs os := by
  obtain ⟨vs, h1, h2⟩ := h.ex
  refine ⟨vs, ?_, DtAll.same s _ h2⟩
  rcases h1 with h1 | ⟨o, h1⟩
  · exact .inl (s _ _ h1)
  · exact .inr ⟨o, s _ _ h1⟩
/-- and it is not locked -/
structure DuesU (K : PySem.W.Frag) (H : Hp) (d : Addr) (zs : List Str) (os : List (Option (Str × Int))) : Prop where
  ex : ∃ vs, H d = some (.dK (dct zs vs)) ∧ DtAll K H vs (os.map dueD)
theorem DuesU.at {K : PySem.W.Frag} {H : Hp} {d : Addr} {zs : List Str} {os : List (Option (Str × Int))} (h : DuesU K H d zs os) : DuesAt K H d zs os := by
  obtain ⟨vs, h1, h2⟩ := h.ex
  exact ⟨vs, .inl h1, h2⟩
theorem DuesU.same {K : PySem.W.Frag} {H H' : Hp} {d : Addr} {zs : List Str} {os : List (Option (Str × Int))} (h : DuesU K H d zs os) (s : Same H H') : DuesU K H' d zs os := by
  obtain ⟨vs, h1, h2⟩ := h.ex
  exact ⟨vs, s _ _ h1, DtAll.same s _ h2⟩
theorem dget_rd {H : Hp} {a : Addr} {zs : List Str} {vs : List V} {j : Nat} {z : Str} {v : V} (h : Rd H a (.dK (dct zs vs))) (nd : zs.Nodup) (e1 : zs[j]? = some z) (e2 : vs[j]? = some v) : DGet H a (.str z) (some v) :=
  .inl ⟨_, Sum.inr z, h, rfl, (dct_val nd e1 e2).symm⟩
theorem DuesAt.get {K : PySem.W.Frag} {H : Hp} {d : Addr} {zs : List Str} {os : List (Option (Str × Int))} (h : DuesAt K H d zs os) (nd : zs.Nodup) (lo : os.length = zs.length) {z : Str} (hz : z ∈ zs) :
    ∃ v o, DGet H d (.str z) (some v) ∧ Dt K H v (dueD o) ∧ nxOf zs os z = o.map (·.1) := by
  obtain ⟨vs, h1, h2⟩ := h.ex
  have hi : zs.idxOf z < os.length := by
    rw [lo]
    exact List.idxOf_lt_length_of_mem hz
  obtain ⟨v, e1, e2⟩ := h2.get (n := zs.idxOf z) (d := dueD os[zs.idxOf z]) (map_get (List.getElem?_eq_getElem hi))
  refine ⟨v, os[zs.idxOf z], dget_rd h1 nd (idx_get hz) e1, e2, ?_⟩
  unfold nxOf
  rw [getD_of (List.getElem?_eq_getElem hi)]
/-- what the walks ask of due notes -/
structure Walks (zs : List Str) (os : List (Option (Str × Int))) : Prop where
  nd : zs.Nodup
  lo : os.length = zs.length
  lz : zs.length ≤ 12
  ld : Leads zs (nxOf zs os)
theorem walks_of {M : Bk} (ok : M.Ok) (c : Closed M) : Walks M.names (duesM M) := ⟨ok.nd, dues_len ok, ok.n1, c.leads⟩
abbrev nxM (M : Bk) : Str → Option Str := nxOf M.names (duesM M)
end Rc

namespace Rc
open PySem PySem.Spec PyProof.Rows L2 RZ
section
variable {P : Program} {w : World} {K : PySem.W.Frag} {mg : Str → Option Value} {base : Heap}
/-! ### trail_by -/
abbrev sTrB : Stmt := topS 28
theorem scTrB : FnScope ["dues", "who", "trail", "due"] ["dues", "who"] (defScope sTrB) := ⟨rfl, rfl, rfl, by decide +kernel, rfl, by decide +kernel, by decide +kernel⟩
def spTrB (K : PySem.W.Frag) : Sp := fun vs H Q _ => ∃ (d : Addr) (z : Str) (zs : List Str) (os : List (Option (Str × Int))), vs = [.ref d, .str z] ∧ DuesAt K H d zs os ∧ Walks zs os ∧ z ∈ zs ∧
  ∀ t H', Same H H' → H t = none → H' t = some (.lst ((trailM zs (nxOf zs os) z).map V.str)) → Q (.ref t) H'
theorem ok_trB {f : Addr} {fd : FuncData} (F : Fun K "trail_by" "trail_by" sTrB f fd) : FnOk P w K mg base CX0 1 f fd ["dues", "who"] (spTrB K) := by
  refine F.ok scTrB (fun vs H Q E h => ?_) (fun cdv A outer s H vs Q E hr h => ?_)
  · obtain ⟨_, _, _, _, rfl, _⟩ := h
    rfl
  · obtain ⟨d, z, zs, os, rfl, hd, wk, hz, q⟩ := h
    have hu := hu_of hr
    refine ⟨_, pss_cons (ps_set (i := 2) scTrB.nd rfl (.inl rfl) (pe_lst (pa_cons (pv 1) pa_nil)))
      (pss_cons (ps_set (i := 3) scTrB.nd rfl (.inl rfl) (pe_dget hu (pv 0) (pv 1) (fun _ _ => rfl)))
      (pss_cons (ps_while PassesOwn.never (PW.pt (pw_and (pt_cmpR op_notN (pv 3) pe_non (nomark _)) (pw_and1 (pt_cmpR op_notIn_seq (pe_ix ix_tup (pv 3) pe_int (fun _ _ => rfl)) (pv 2) (by rfl)))))
        (pss_cons (ps_expr (pe_bm PySem.F.plainAttrs_list PySem.F.slot_list_append PySem.F.type_list_append mt_append (pv 2) (pa_cons (pe_ix ix_tup (pv 3) pe_int (fun _ _ => rfl)) pa_nil)))
        (pss_one (ps_set (i := 3) scTrB.nd rfl (.inl rfl) (pe_dget hu (pv 0) (pe_ix ix_tup (pv 3) pe_int (fun _ _ => rfl)) (fun _ _ => rfl))))))
      (pss_one (ps_ret (pv 2))))), ?_⟩
    refine ⟨.str z, rfl, by show 1 ≤ sizeLine; decide, fun t nt => ?_⟩
    have s1 := same_upd (o := .lst [V.str z]) nt
    have ht1 : upd H t (.lst [V.str z]) t = some (.lst [V.str z]) := upd_same
    generalize upd H t (.lst [V.str z]) = H1 at s1 ht1
    obtain ⟨v0, o0, g0, d0, e0⟩ := (hd.same s1).get wk.nd wk.lo hz
    refine ⟨.ref d, rfl, .str z, rfl, d, v0, rfl, g0, ?_⟩
    refine ⟨fun k σ H' => ∃ acc o v, σ = [some (.ref d), some (.str z), some (.ref t), some v] ∧ Same H H' ∧ H' t = some (.lst (List.map V.str acc)) ∧ Dt K H' v (dueD o) ∧ TrailAt zs (nxOf zs os) z k acc (o.map (·.1)),
      ⟨zs.length, [z], o0, v0, rfl, s1, ht1, d0, by rw [← e0]; exact TrailAt.start hz⟩, ?_⟩
    rintro k σ H' ⟨acc, o, v, rfl, s2, ht, dv, ta⟩
    have fin : acc = trailM zs (nxOf zs os) z → ∃ x : V, some (some (.ref t)) = some (some x) ∧ Q x H' := fun ea => ⟨.ref t, rfl, q t H' s2 nt (by rw [← ea]; exact ht)⟩
    have lacc : acc.length ≤ 12 := Nat.le_trans (nodup_le _ _ ta.nd ta.sub) wk.lz
    rcases due_inv dv with ⟨rfl, rfl⟩ | ⟨n, a, rfl, rfl, qa⟩
    · refine ⟨.non, rfl, rfl, _, rfl, ?_⟩
      rw [decide_eq_true rfl]
      refine iteF (iteF ?_)
      exact fin ta.stopN
    · refine ⟨.ref a, rfl, rfl, _, rfl, ?_⟩
      rw [decide_eq_false (fun c => by cases c)]
      refine iteT ⟨.ref a, rfl, a, _, 0, .str n.1, rfl, rfl, qa, rfl, .ref t, rfl, t, _, rfl, .inl (.inl (.inl ht)), rfl, flat_strs _, _, rfl, ?_⟩
      show if (!inV (.str n.1) (acc.map V.str)) = true then _ else _
      rw [inV_strs]
      by_cases hin : n.1 ∈ acc
      · rw [decide_eq_true hin]
        refine iteF ?_
        exact fin (ta.stopI hin)
      · rw [decide_eq_false hin]
        obtain ⟨k', rfl, ta'⟩ := ta.step wk.ld hin
        refine iteT ⟨fun σ2 H2 => ∃ acc o v, σ2 = [some (.ref d), some (.str z), some (.ref t), some v] ∧ Same H H2 ∧ H2 t = some (.lst (List.map V.str acc)) ∧ Dt K H2 v (dueD o) ∧ TrailAt zs (nxOf zs os) z k' acc (o.map (·.1)), fun σ2 H2 h2 => ⟨k', by omega, h2⟩, ?_⟩
        refine ⟨.ref t, rfl, .inl ⟨rfl, _, .inl (.inl ht)⟩, .ref a, rfl, a, _, 0, .str n.1, rfl, rfl, qa, rfl, t, _, _, rfl, rfl, ht, by rw [List.length_map]; exact small1000 (by omega), ?_⟩
        have kt : KT H' (upd H' t (.lst (acc.map V.str ++ [.str n.1]))) := kt_upd ht fun z => z
        have s3 : Same H (upd H' t (.lst (acc.map V.str ++ [.str n.1]))) := fun c u ec => by
          rw [upd_ne (ne_of_none ec nt)]
          exact s2 c u ec
        have qa3 : SqT K (upd H' t (.lst (acc.map V.str ++ [.str n.1]))) a [.str n.1, .int n.2] := by
          rcases qa with (qa | ⟨ob, qa⟩) | qa
          · exact .inl (.inl (kt _ _ qa trivial))
          · exact .inl (.inr ⟨ob, kt _ _ qa trivial⟩)
          · exact .inr qa
        have hn : n.1 ∈ zs := by
          obtain ⟨_, x, _, ex⟩ := ta.last
          exact wk.ld x n.1 ex.symm
        obtain ⟨v2, o2, g2, d2, e2⟩ := (hd.same s3).get wk.nd wk.lo hn
        refine ⟨.ref d, rfl, .ref a, rfl, a, _, 0, .str n.1, rfl, rfl, qa3, rfl, d, v2, rfl, g2, ?_⟩
        refine ⟨acc ++ [n.1], o2, v2, rfl, s3, ?_, d2, ?_⟩
        · rw [upd_same, List.map_append]
          rfl
        · rw [← e2]
          exact ta'
end
end Rc

namespace Rc
open PySem PySem.Spec PyProof.Rows L2 RZ
/-- a ring that is told, or none -/
def RingV (H H' : Hp) (v : V) : Option (List Str) → Prop
  | none => v = .non
  | some r => ∃ a, v = .ref a ∧ H a = none ∧ H' a = some (.lst (r.map V.str))
theorem RingV.same {H H0 H' H2 : Hp} {v : V} {o : Option (List Str)} (h : RingV H H' v o) (s : Same H' H2) (s0 : Same H0 H) : RingV H0 H2 v o := by
  cases o with
  | none => exact h
  | some r =>
    obtain ⟨a, e, n, x⟩ := h
    exact ⟨a, e, s0.free n, s _ _ x⟩
theorem idx_first {T : List Str} {f : Str} {m : Nat} {x : Str} (hm : m < T.idxOf f) (e : T[m]? = some x) : x ≠ f := fun c => by
  obtain ⟨hl, e'⟩ := List.getElem?_eq_some_iff.mp e
  have := List.not_of_lt_findIdx (p := (· == f)) (xs := T) (i := m) hm
  rw [e', c] at this
  simp at this
theorem str_eqV (x y : Str) : eqV (.str x) (.str y) = (x == y) := rfl
end Rc

namespace Rc
open PySem PySem.Spec PyProof.Rows L2 RZ
section
variable {P : Program} {w : World} {K : PySem.W.Frag} {mg : Str → Option Value} {base : Heap}
/-! ### ring_by -/
abbrev sRgB : Stmt := topS 29
abbrev nRgB : List Str := ["dues", "who", "trail", "last", "first", "place", "name"]
theorem scRgB : FnScope nRgB ["dues", "who"] (defScope sRgB) := ⟨rfl, rfl, rfl, by decide +kernel, rfl, by decide +kernel, by decide +kernel⟩
def spRgB (K : PySem.W.Frag) : Sp := fun vs H Q _ => ∃ (d : Addr) (z : Str) (zs : List Str) (os : List (Option (Str × Int))), vs = [.ref d, .str z] ∧ DuesAt K H d zs os ∧ Walks zs os ∧ z ∈ zs ∧
  ∀ v H', Same H H' → RingV H H' v (ringM zs (nxOf zs os) z) → Q v H'
theorem ok_rgB {f f1 : Addr} {fd fd1 : FuncData} (F : Fun K "ring_by" "ring_by" sRgB f fd) (TB : Has P w K mg base 1 "trail_by" ["dues", "who"] (spTrB K) f1 fd1) : FnOk P w K mg base CX0 2 f fd ["dues", "who"] (spRgB K) := by
  refine F.ok scRgB (fun vs H Q E h => ?_) (fun cdv A outer s H vs Q E hr h => ?_)
  · obtain ⟨_, _, _, _, rfl, _⟩ := h
    rfl
  · obtain ⟨d, z, zs, os, rfl, hd, wk, hz, q⟩ := h
    have hu := hu_of hr
    obtain ⟨vs, hR, hV⟩ := hd.ex
    rcases hR with hU | ⟨od, hF⟩
    · refine ⟨_, pss_cons (ps_set (i := 2) scRgB.nd rfl (.inr rfl) (pe_call TB.ok hr (by rfl) TB.g TB.kp TB.b .nil pass0 (pa_cons (pv 0) (pa_cons (pv 1) pa_nil))))
        (pss_cons (ps_set (i := 3) scRgB.nd rfl (.inl rfl) (pe_dget hu (pv 0) (pe_ix ix_list (pv 2) (pe_un un_neg pe_int) (fun _ _ => rfl)) (fun _ _ => rfl)))
        (pss_cons (ps_if (PW.pt (pw_or (pt_cmpR op_isN (pv 3) pe_non (nomark _)) (pw_or1 (pt_cmpR op_ne (pe_ix ix_tup (pv 3) pe_int (fun _ _ => rfl)) (pv 1) (nomark _))))) (pss_one (ps_ret pe_non)) pss_nil)
        (pss_cons (ps_set (i := 4) scRgB.nd rfl (.inl rfl) (pe_ix ix_list (pe_lock (pe_lc (own := [("name", 6)]) (g := gName 6) (tt := tTest (tOp (rIn K false) (tVar 6) (tVar 2))) (te := tVar 6) rfl scRgB.nd (pi_keys (pv 0)) (blkOk_by (N := nRgB) (sc := defScope sRgB) (own := [("name", 6)]) (by decide +kernel))
            (fun _ _ _ _ _ => pg_name (i := 6) scRgB.nd rfl (.inl rfl) (hf := .inr rfl)) (fun _ _ _ _ _ => pts_one (pt_cmpR op_in_seq (pv 6) (pv 2) (by rfl))) (fun _ _ _ _ _ => pv 6))) pe_int (fun _ _ => rfl)))
        (pss_cons (ps_set (i := 5) scRgB.nd rfl (.inl rfl) (pe_bm PySem.F.plainAttrs_list PySem.F.slot_list_index PySem.F.type_list_index mt_index (pv 2) (pa_cons (pv 4) pa_nil)))
        (pss_one (ps_ret (pe_op op_cat (pe_slice sl_list (pv 2) (po_some (pv 5)) po_none) (pe_slice sl_list (pv 2) po_none (po_some (pv 5)))))))))), ?_⟩
      have en := trail_ended wk.ld hz
      obtain ⟨ini, y, eT, eL⟩ := en.last
      have hyT : y ∈ trailM zs (nxOf zs os) z := by
        rw [eT]
        exact List.mem_append.mpr (.inr List.mem_cons_self)
      have hy : y ∈ zs := en.sub y hyT
      have eL2 := lastM_eq eT
      have hzT : z ∈ trailM zs (nxOf zs os) z := by
        obtain ⟨r, er⟩ := en.first
        rw [er]
        exact List.mem_cons_self
      have lT : (trailM zs (nxOf zs os) z).length ≤ 12 := Nat.le_trans (nodup_le _ _ en.nd en.sub) wk.lz
      refine ⟨.ref d, rfl, .str z, rfl, d, z, zs, os, rfl, hd, wk, hz, fun t H1 s1 nt ht => ?_⟩
      obtain ⟨v2, o2, g2, d2, e2⟩ := (hd.same s1).get wk.nd wk.lo hy
      refine ⟨.ref d, rfl, .ref t, rfl, _, rfl, t, _, -1, .str y, rfl, rfl, .inl (.inl ht), ?_, d, v2, rfl, g2, ?_⟩
      · rw [eT, List.map_append]
        exact atI_last _ _
      have er : ringM zs (nxOf zs os) z = if o2.map (·.1) = some z then some ((trailM zs (nxOf zs os) z).drop ((trailM zs (nxOf zs os) z).idxOf (firstM zs (trailM zs (nxOf zs os) z))) ++ (trailM zs (nxOf zs os) z).take ((trailM zs (nxOf zs os) z).idxOf (firstM zs (trailM zs (nxOf zs os) z)))) else none := by
        unfold ringM
        rw [eL2, e2]
      rw [er] at q
      generalize trailM zs (nxOf zs os) z = TT at hzT lT ht eT hyT q
      rcases due_inv d2 with ⟨rfl, rfl⟩ | ⟨n, a, rfl, rfl, qa⟩
      · refine ⟨.non, rfl, rfl, _, rfl, ?_⟩
        rw [decide_eq_true rfl]
        refine iteT (iteT ?_)
        exact q .non H1 s1 rfl
      · refine ⟨.ref a, rfl, rfl, _, rfl, ?_⟩
        rw [decide_eq_false (fun c => by cases c)]
        refine iteF ⟨.ref a, rfl, a, _, 0, .str n.1, rfl, rfl, qa, rfl, .str z, rfl, rfl, _, rfl, ?_⟩
        by_cases hn : n.1 = z
        · rw [show decide (V.str n.1 = V.str z) = true from decide_eq_true (by rw [hn])]
          rw [if_pos (show (some n).map (·.1) = some z from congrArg some hn)] at q
          refine iteF ?_
          obtain ⟨vs, hdv, dvs⟩ := (DuesU.same ⟨_, hU, hV⟩ s1).ex
          obtain ⟨fs, rs, ef, e1, fT, fz⟩ := find_some hz hzT
          rw [e1] at q
          refine ⟨d, _, hdv, trivial, fun od => ?_⟩
          have hdL : upd H1 d (.frz od (.dK (dct zs vs))) d = some (.frz od (.dK (dct zs vs))) := upd_same
          have tdn : t ≠ d := fun c => by
            rw [c, hdv] at ht
            cases ht
          have htL : upd H1 d (.frz od (.dK (dct zs vs))) t = some (.lst (TT.map V.str)) := by
            rw [upd_ne tdn]
            exact ht
          have un : ∀ H', Same (upd H1 d (.frz od (.dK (dct zs vs)))) H' → Same H1 (upd H' d (.dK (dct zs vs))) := fun H' s' => same_unlock hdv s'
          generalize upd H1 d (.frz od (.dK (dct zs vs))) = HL at hdL htL un
          have lv : vs.length = zs.length := by
            rw [dvs.len, List.length_map, wk.lo]
          have lk : (dct zs vs).length = zs.length := dct_len lv
          refine ⟨.ref d, rfl, d, od, rfl, .inl ⟨_, hdL, fun D nD => ?_⟩⟩
          refine lc_it (walk_keys (kvs := dct zs vs)) (fun i H' => Same HL H' ∧ H' D = some (.lst (((zs.take i).filter fun x => decide (x ∈ TT)).map V.str))) ⟨same_upd nD, upd_same⟩ (fun i H' _ hP => hP.1 _ _ hdL)
            (fun i x H2' H2 hi hP hY => ?_) (fun H2 hP => ?_)
          · obtain ⟨rfl, k, v, ek, rfl⟩ := hY
            rw [lk] at hi
            have hiv : i < vs.length := by omega
            have ek2 : (dct zs vs)[i]? = some (Sum.inr zs[i], vs[i]) := by
              unfold dct
              rw [List.getElem?_map, List.getElem?_zip_eq_some (z := (zs[i], vs[i])) |>.mpr ⟨List.getElem?_eq_getElem hi, List.getElem?_eq_getElem hiv⟩]
              rfl
            rw [ek2] at ek
            cases ek
            refine ⟨rfl, .str zs[i], rfl, .ref t, rfl, t, _, rfl, .inl (.inl (.inl (hP.1 _ _ htL))), rfl, flat_strs _, _, rfl, ?_⟩
            show if inV (.str zs[i]) (TT.map V.str) = true then _ else _
            rw [inV_strs]
            have tk := take_succ hi
            by_cases hin : zs[i] ∈ TT
            · rw [decide_eq_true hin]
              refine iteT ⟨_, rfl, _, hP.2, ?_, fun c o ec => ?_, ?_⟩
              · rw [List.length_map]
                have h1 := List.length_filter_le (fun x => decide (x ∈ TT)) (zs.take i)
                have h2 : (zs.take i).length ≤ zs.length := by
                  rw [List.length_take]
                  omega
                have := wk.lz
                exact small1000 (by omega)
              · rw [upd_ne (ne_of_none ec nD)]
                exact hP.1 c o ec
              · rw [upd_same, tk, List.filter_append, List.map_append]
                simp [hin]
                rfl
            · rw [decide_eq_false hin]
              refine iteF ⟨hP.1, ?_⟩
              rw [hP.2, tk, List.filter_append]
              simp [hin]
          · obtain ⟨s2, hD⟩ := hP
            rw [lk, List.take_length, ef] at hD
            have s3 := un _ s2
            have tD : t ≠ D := ne_of_none htL nD
            have dD : D ≠ d := (ne_of_none hdL nD).symm
            have hD3 : upd H2 d (.dK (dct zs vs)) D = some (.lst ((fs :: rs).map V.str)) := by
              rw [upd_ne dD]
              exact hD
            have ht3 := s3 _ _ ht
            refine ⟨s2 _ _ hdL, ?_⟩
            generalize upd H2 d (.dK (dct zs vs)) = H3 at s3 hD3 ht3
            refine ⟨D, _, 0, .str fs, rfl, rfl, .inl (.inl hD3), atI_nat (j := 0) rfl, ?_⟩
            refine ⟨.ref t, rfl, .inl ⟨rfl, _, .inl (.inl ht3)⟩, .str fs, rfl, t, _, .str fs, TT.idxOf fs, .str fs, rfl, rfl, .inl (.inl ht3), rfl, flat_strs _, map_get (idx_get fT), by rw [str_eqV]; simp, fun m z' hm e' => ?_, ?_⟩
            · rw [List.getElem?_map] at e'
              obtain ⟨x', ex, rfl⟩ := Option.map_eq_some_iff.mp e'
              rw [str_eqV]
              exact beq_eq_false_iff_ne.mpr (idx_first hm ex)
            · refine ⟨.ref t, rfl, .int (TT.idxOf fs : Nat), rfl, _, rfl, t, _, rfl, .inl (.inl ht3), fun p1 n1 => ?_⟩
              rw [cut_drop, ← List.map_drop]
              have s4 := same_upd (o := .lst ((TT.drop (TT.idxOf fs)).map V.str)) n1
              refine ⟨.ref t, rfl, .int (TT.idxOf fs : Nat), rfl, _, rfl, t, _, rfl, .inl (.inl (s4 _ _ ht3)), fun p2 n2 => ?_⟩
              rw [cut_take, ← List.map_take]
              have s5 := same_upd (o := .lst ((TT.take (TT.idxOf fs)).map V.str)) n2
              refine ⟨p1, p2, _, _, rfl, rfl, s5 _ _ upd_same, upd_same, ?_, fun p np => ?_⟩
              · rw [List.length_map, List.length_map, List.length_drop, List.length_take]
                exact small_line (by omega)
              · have s6 := same_upd (o := .lst ((TT.drop (TT.idxOf fs)).map V.str ++ (TT.take (TT.idxOf fs)).map V.str)) np
                refine q (.ref p) _ (s1.trans (s3.trans (s4.trans (s5.trans s6)))) ⟨p, rfl, (s1.trans (s3.trans (s4.trans s5))).free np, ?_⟩
                rw [upd_same, List.map_append]
        · rw [show decide (V.str n.1 = V.str z) = false from decide_eq_false (fun c => hn (V.str.inj c))]
          rw [if_neg (show ¬ (some n).map (·.1) = some z from fun c => hn (Option.some.inj c))] at q
          exact iteT (q .non H1 s1 rfl)
    · refine ⟨_, pss_cons (ps_set (i := 2) scRgB.nd rfl (.inr rfl) (pe_call TB.ok hr (by rfl) TB.g TB.kp TB.b .nil pass0 (pa_cons (pv 0) (pa_cons (pv 1) pa_nil))))
        (pss_cons (ps_set (i := 3) scRgB.nd rfl (.inl rfl) (pe_dget hu (pv 0) (pe_ix ix_list (pv 2) (pe_un un_neg pe_int) (fun _ _ => rfl)) (fun _ _ => rfl)))
        (pss_cons (ps_if (PW.pt (pw_or (pt_cmpR op_isN (pv 3) pe_non (nomark _)) (pw_or1 (pt_cmpR op_ne (pe_ix ix_tup (pv 3) pe_int (fun _ _ => rfl)) (pv 1) (nomark _))))) (pss_one (ps_ret pe_non)) pss_nil)
        (pss_cons (ps_set (i := 4) scRgB.nd rfl (.inl rfl) (pe_ix ix_list (pe_lc (own := [("name", 6)]) (g := gName 6) (tt := tTest (tOp (rIn K false) (tVar 6) (tVar 2))) (te := tVar 6) rfl scRgB.nd (pi_keys (pv 0)) (blkOk_by (N := nRgB) (sc := defScope sRgB) (own := [("name", 6)]) (by decide +kernel))
            (fun _ _ _ _ _ => pg_name (i := 6) scRgB.nd rfl (.inl rfl) (hf := .inr rfl)) (fun _ _ _ _ _ => pts_one (pt_cmpR op_in_seq (pv 6) (pv 2) (by rfl))) (fun _ _ _ _ _ => pv 6)) pe_int (fun _ _ => rfl)))
        (pss_cons (ps_set (i := 5) scRgB.nd rfl (.inl rfl) (pe_bm PySem.F.plainAttrs_list PySem.F.slot_list_index PySem.F.type_list_index mt_index (pv 2) (pa_cons (pv 4) pa_nil)))
        (pss_one (ps_ret (pe_op op_cat (pe_slice sl_list (pv 2) (po_some (pv 5)) po_none) (pe_slice sl_list (pv 2) po_none (po_some (pv 5)))))))))), ?_⟩
      have en := trail_ended wk.ld hz
      obtain ⟨ini, y, eT, eL⟩ := en.last
      have hyT : y ∈ trailM zs (nxOf zs os) z := by
        rw [eT]
        exact List.mem_append.mpr (.inr List.mem_cons_self)
      have hy : y ∈ zs := en.sub y hyT
      have eL2 := lastM_eq eT
      have hzT : z ∈ trailM zs (nxOf zs os) z := by
        obtain ⟨r, er⟩ := en.first
        rw [er]
        exact List.mem_cons_self
      have lT : (trailM zs (nxOf zs os) z).length ≤ 12 := Nat.le_trans (nodup_le _ _ en.nd en.sub) wk.lz
      refine ⟨.ref d, rfl, .str z, rfl, d, z, zs, os, rfl, hd, wk, hz, fun t H1 s1 nt ht => ?_⟩
      obtain ⟨v2, o2, g2, d2, e2⟩ := (hd.same s1).get wk.nd wk.lo hy
      refine ⟨.ref d, rfl, .ref t, rfl, _, rfl, t, _, -1, .str y, rfl, rfl, .inl (.inl ht), ?_, d, v2, rfl, g2, ?_⟩
      · rw [eT, List.map_append]
        exact atI_last _ _
      have er : ringM zs (nxOf zs os) z = if o2.map (·.1) = some z then some ((trailM zs (nxOf zs os) z).drop ((trailM zs (nxOf zs os) z).idxOf (firstM zs (trailM zs (nxOf zs os) z))) ++ (trailM zs (nxOf zs os) z).take ((trailM zs (nxOf zs os) z).idxOf (firstM zs (trailM zs (nxOf zs os) z)))) else none := by
        unfold ringM
        rw [eL2, e2]
      rw [er] at q
      generalize trailM zs (nxOf zs os) z = TT at hzT lT ht eT hyT q
      rcases due_inv d2 with ⟨rfl, rfl⟩ | ⟨n, a, rfl, rfl, qa⟩
      · refine ⟨.non, rfl, rfl, _, rfl, ?_⟩
        rw [decide_eq_true rfl]
        refine iteT (iteT ?_)
        exact q .non H1 s1 rfl
      · refine ⟨.ref a, rfl, rfl, _, rfl, ?_⟩
        rw [decide_eq_false (fun c => by cases c)]
        refine iteF ⟨.ref a, rfl, a, _, 0, .str n.1, rfl, rfl, qa, rfl, .str z, rfl, rfl, _, rfl, ?_⟩
        by_cases hn : n.1 = z
        · rw [show decide (V.str n.1 = V.str z) = true from decide_eq_true (by rw [hn])]
          rw [if_pos (show (some n).map (·.1) = some z from congrArg some hn)] at q
          refine iteF ?_
          have dvs := DtAll.same s1 _ hV
          have hdL := s1 _ _ hF
          obtain ⟨fs, rs, ef, e1, fT, fz⟩ := find_some hz hzT
          rw [e1] at q
          have htL := ht
          have lv : vs.length = zs.length := by
            rw [dvs.len, List.length_map, wk.lo]
          have lk : (dct zs vs).length = zs.length := dct_len lv
          refine ⟨.ref d, rfl, d, od, rfl, .inl ⟨_, hdL, fun D nD => ?_⟩⟩
          refine lc_it (walk_keys (kvs := dct zs vs)) (fun i H' => Same H1 H' ∧ H' D = some (.lst (((zs.take i).filter fun x => decide (x ∈ TT)).map V.str))) ⟨same_upd nD, upd_same⟩ (fun i H' _ hP => hP.1 _ _ hdL)
            (fun i x H2' H2 hi hP hY => ?_) (fun H2 hP => ?_)
          · obtain ⟨rfl, k, v, ek, rfl⟩ := hY
            rw [lk] at hi
            have hiv : i < vs.length := by omega
            have ek2 : (dct zs vs)[i]? = some (Sum.inr zs[i], vs[i]) := by
              unfold dct
              rw [List.getElem?_map, List.getElem?_zip_eq_some (z := (zs[i], vs[i])) |>.mpr ⟨List.getElem?_eq_getElem hi, List.getElem?_eq_getElem hiv⟩]
              rfl
            rw [ek2] at ek
            cases ek
            refine ⟨rfl, .str zs[i], rfl, .ref t, rfl, t, _, rfl, .inl (.inl (.inl (hP.1 _ _ htL))), rfl, flat_strs _, _, rfl, ?_⟩
            show if inV (.str zs[i]) (TT.map V.str) = true then _ else _
            rw [inV_strs]
            have tk := take_succ hi
            by_cases hin : zs[i] ∈ TT
            · rw [decide_eq_true hin]
              refine iteT ⟨_, rfl, _, hP.2, ?_, fun c o ec => ?_, ?_⟩
              · rw [List.length_map]
                have h1 := List.length_filter_le (fun x => decide (x ∈ TT)) (zs.take i)
                have h2 : (zs.take i).length ≤ zs.length := by
                  rw [List.length_take]
                  omega
                have := wk.lz
                exact small1000 (by omega)
              · rw [upd_ne (ne_of_none ec nD)]
                exact hP.1 c o ec
              · rw [upd_same, tk, List.filter_append, List.map_append]
                simp [hin]
                rfl
            · rw [decide_eq_false hin]
              refine iteF ⟨hP.1, ?_⟩
              rw [hP.2, tk, List.filter_append]
              simp [hin]
          · obtain ⟨s2, hD⟩ := hP
            rw [lk, List.take_length, ef] at hD
            have s3 := s2
            have tD : t ≠ D := ne_of_none htL nD
            have dD : D ≠ d := (ne_of_none hdL nD).symm
            have hD3 := hD
            have ht3 := s3 _ _ ht
            refine ⟨D, _, 0, .str fs, rfl, rfl, .inl (.inl hD3), atI_nat (j := 0) rfl, ?_⟩
            refine ⟨.ref t, rfl, .inl ⟨rfl, _, .inl (.inl ht3)⟩, .str fs, rfl, t, _, .str fs, TT.idxOf fs, .str fs, rfl, rfl, .inl (.inl ht3), rfl, flat_strs _, map_get (idx_get fT), by rw [str_eqV]; simp, fun m z' hm e' => ?_, ?_⟩
            · rw [List.getElem?_map] at e'
              obtain ⟨x', ex, rfl⟩ := Option.map_eq_some_iff.mp e'
              rw [str_eqV]
              exact beq_eq_false_iff_ne.mpr (idx_first hm ex)
            · refine ⟨.ref t, rfl, .int (TT.idxOf fs : Nat), rfl, _, rfl, t, _, rfl, .inl (.inl ht3), fun p1 n1 => ?_⟩
              rw [cut_drop, ← List.map_drop]
              have s4 := same_upd (o := .lst ((TT.drop (TT.idxOf fs)).map V.str)) n1
              refine ⟨.ref t, rfl, .int (TT.idxOf fs : Nat), rfl, _, rfl, t, _, rfl, .inl (.inl (s4 _ _ ht3)), fun p2 n2 => ?_⟩
              rw [cut_take, ← List.map_take]
              have s5 := same_upd (o := .lst ((TT.take (TT.idxOf fs)).map V.str)) n2
              refine ⟨p1, p2, _, _, rfl, rfl, s5 _ _ upd_same, upd_same, ?_, fun p np => ?_⟩
              · rw [List.length_map, List.length_map, List.length_drop, List.length_take]
                exact small_line (by omega)
              · have s6 := same_upd (o := .lst ((TT.drop (TT.idxOf fs)).map V.str ++ (TT.take (TT.idxOf fs)).map V.str)) np
                refine q (.ref p) _ (s1.trans (s3.trans (s4.trans (s5.trans s6)))) ⟨p, rfl, (s1.trans (s3.trans (s4.trans s5))).free np, ?_⟩
                rw [upd_same, List.map_append]
        · rw [show decide (V.str n.1 = V.str z) = false from decide_eq_false (fun c => hn (V.str.inj c))]
          rw [if_neg (show ¬ (some n).map (·.1) = some z from fun c => hn (Option.some.inj c))] at q
          exact iteT (q .non H1 s1 rfl)
end
end Rc

namespace Rc
open PySem PySem.Spec PyProof.Rows L2 RZ
section
variable {P : Program} {w : World} {K : PySem.W.Frag} {mg : Str → Option Value} {base : Heap}
/-! ### due_of -/
abbrev sDue : Stmt := topS 26
theorem scDue : FnScope ["book", "who", "pile"] ["book", "who"] (defScope sDue) := ⟨rfl, rfl, rfl, by decide +kernel, rfl, by decide +kernel, by decide +kernel⟩
def spDue (K : PySem.W.Frag) (C : Addr) : Sp := fun vs H Q _ => ∃ (b : Addr) (M : Bk) (z : Str) (j : Nat), vs = [.ref b, .str z] ∧ BookAt K C H b M ∧ M.Ok ∧ M.names[j]? = some z ∧ ∀ v H', Same H H' → Dt K H' v (dueD ((duesM M).getD j none)) → Q v H'
theorem ok_due {f fp C : Addr} {fd fdp : FuncData} (F : Fun K "due_of" "due_of" sDue f fd) (T : ClsF K C) (B : Blt mg) (PI' : HasM P w K mg base C 5 "pile" ["self", "who"] (spRow K C leftN) fp fdp) : FnOk P w K mg base CX0 6 f fd ["book", "who"] (spDue K C) := by
  refine F.ok scDue (fun vs H Q E h => ?_) (fun cdv A outer s H vs Q E hr h => ?_)
  · obtain ⟨_, _, _, _, rfl, _⟩ := h
    rfl
  · obtain ⟨b, M, z, j, rfl, hb, ok, ej, q⟩ := h
    refine ⟨_, pss_cons (ps_set (i := 2) scDue.nd rfl (.inl rfl) (pe_meth (pv 0) T.cl PI'.m PI'.ok hr PI'.b .nil pass0 (pa_cons (pv 1) pa_nil)))
      (pss_one (ps_ret (pe_ifExp (pt_cmpR op_gt (pe_callB call_len_seq (by rfl) B.len PySem.boot_len (pa_cons (pv 2) pa_nil)) pe_int (nomark _)) (pe_ix ix_list (pv 2) pe_int (fun _ _ => rfl)) pe_non))), ?_⟩
    obtain ⟨g, l, d, eg, el, ed, ll⟩ := ok.at_ ej
    obtain ⟨dx, tn, on, wg, ws, wd, e, h1, hn, h2, h3, h4⟩ := hb.ex
    refine ⟨.ref b, rfl, b, dx, _, rfl, e, bf_no (NoF.mk' (by decide +kernel)), .str z, rfl, b, M, z, j, l, d, rfl, hb, ok.names, ej, el, ed, by omega, fun r xs H1 s1 nr hr1 dr => ?_⟩
    refine ⟨.ref r, rfl, r, _, rfl, .inl (.inl (.inl hr1)), _, _, rfl, rfl, _, rfl, ?_⟩
    have eo : (duesM M).getD j none = (leftN l d).head? := getD_of (dues_at el ed)
    rw [eo] at q
    cases hl : leftN l d with
    | nil =>
      rw [hl] at dr q
      cases dr
      exact iteF (q .non H1 s1 .non)
    | cons n t =>
      rw [hl] at dr q
      cases dr with
      | cons d1 d2 =>
        rename_i x xr
        rw [show decide ((0 : Int) < ((x :: xr).length : Int)) = true from decide_eq_true (by rw [List.length_cons]; omega)]
        exact iteT ⟨.ref r, rfl, r, _, 0, x, rfl, rfl, .inl (.inl hr1), atI_nat (j := 0) rfl, q x H1 s1 d1⟩
/-! ### all_dues -/
abbrev sDues : Stmt := topS 27
abbrev nDues : List Str := ["book", "who"]
theorem scDues : FnScope nDues ["book"] (defScope sDues) := ⟨rfl, rfl, rfl, by decide +kernel, rfl, by decide +kernel, by decide +kernel⟩
def spDues (K : PySem.W.Frag) (C : Addr) : Sp := fun vs H Q _ => ∃ (b : Addr) (M : Bk), vs = [.ref b] ∧ BookAt K C H b M ∧ M.Ok ∧ ∀ d H', Same H H' → H d = none → DuesU K H' d M.names (duesM M) → Q (.ref d) H'
theorem ok_dues {f f1 f2 C : Addr} {fd fd1 fd2 : FuncData} (F : Fun K "all_dues" "all_dues" sDues f fd) (T : ClsF K C) (PS' : HasM P w K mg base C 1 "persons" ["self"] (spPersons K C) f1 fd1)
    (DU : Has P w K mg base 6 "due_of" ["book", "who"] (spDue K C) f2 fd2) : FnOk P w K mg base CX0 7 f fd ["book"] (spDues K C) := by
  refine F.ok scDues (fun vs H Q E h => ?_) (fun cdv A outer s H vs Q E hr h => ?_)
  · obtain ⟨_, _, rfl, _⟩ := h
    rfl
  · obtain ⟨b, M, rfl, hb, ok, q⟩ := h
    have hr1 := hr.mono (show 1 ≤ 6 by decide)
    refine ⟨_, pss_one (ps_ret (pe_dc (own := [("who", 1)]) (g := gName 1) (tt := tYes) rfl scDues.nd (pi_list (pe_meth0 (pv 0) T.cl PS'.m PS'.ok hr1 PS'.b .nil pass0)) (blkOk_by (N := nDues) (sc := defScope sDues) (own := [("who", 1)]) (by decide +kernel))
      (fun _ _ _ _ _ => pg_name (i := 1) scDues.nd rfl (.inl rfl) (hf := .inr rfl)) (fun _ _ _ _ _ => pts_nil) (fun _ _ _ _ _ => pv 1)
      (fun _ _ _ _ _ => pe_call DU.ok hr (by rfl) DU.g DU.kp DU.b .nil pass0 (pa_cons (pv 0) (pa_cons (pv 1) pa_nil))))), ?_⟩
    obtain ⟨dx, tn, on, wg, ws, wd, e, h1, hn, h2, h3, h4⟩ := hb.ex
    refine ⟨.ref b, rfl, b, dx, _, rfl, e, bf_no (NoF.mk' (by decide +kernel)), b, M, rfl, hb, fun l nl => ⟨l, rfl, ⟨_, .inl (.inl upd_same)⟩, fun D nD => ?_⟩⟩
    have s1 := same_upd (o := .lst (M.names.map V.str)) nl
    have hl1 : upd H l (.lst (M.names.map V.str)) l = some (.lst (M.names.map V.str)) := upd_same
    have nDH : H D = none := s1.free nD
    generalize upd H l (.lst (M.names.map V.str)) = H1 at s1 hl1 nD
    have ld := dues_len ok
    have n12 := ok.n1
    have lnm : (M.names.map V.str).length = M.names.length := List.length_map ..
    refine out_it (walk_list (K := K) (a := l) (xs := M.names.map V.str)) (fun i H' => Same H1 H' ∧ ∃ vs, H' D = some (.dK (dct (M.names.take i) vs)) ∧ vs.length = i ∧ DtAll K H' vs (((duesM M).take i).map dueD)) ⟨same_upd nD, [], upd_same, rfl, .nil⟩ (fun i H' _ hP => .inl (.inl (hP.1 _ _ hl1)))
      (fun i x H2' H2 hi hP hY => ?_) (fun H2 hP => ?_)
    · obtain ⟨rfl, hx⟩ := hY
      obtain ⟨s2, vs, hD, lv, dv⟩ := hP
      rw [lnm] at hi
      have ex : x = .str M.names[i] := by
        rw [List.getElem?_map, List.getElem?_eq_getElem hi] at hx
        exact (Option.some.inj hx).symm
      subst ex
      have s02 := s1.trans s2
      refine ⟨rfl, _, rfl, .ref b, rfl, _, rfl, b, M, _, i, rfl, book_same hb s02, ok, List.getElem?_eq_getElem hi, fun v H3 s3 d3 => ?_⟩
      have hD3 := s3 _ _ hD
      refine ⟨_, Sum.inr M.names[i], rfl, hD3, ?_, fun c o ec => ?_, ?_⟩
      · rw [dct_len (by rw [lv, List.length_take]; omega), List.length_take]
        exact small1000 (by omega)
      · rw [upd_ne (ne_of_none ec nD)]
        exact s3 _ _ (s2 c o ec)
      · have no : ∀ kv ∈ dct (M.names.take i) vs, ¬ kv.1 = (Sum.inr M.names[i] : Key) := dct_nokey fun z => by
          obtain ⟨j, hj, e'⟩ := List.getElem_of_mem z
          rw [List.length_take] at hj
          rw [List.getElem_take] at e'
          have := (List.getElem_inj ok.nd).mp e'
          omega
        have kt : KT H3 (upd H3 D (.dK (putK (dct (M.names.take i) vs) (Sum.inr M.names[i]) v))) := kt_upd hD3 fun z => z
        refine ⟨vs ++ [v], ?_, by rw [List.length_append, lv]; rfl, ?_⟩
        · rw [upd_same, put_new no, ← dct_snoc (by rw [lv, List.length_take]; omega), ← take_succ hi]
        · have hid : i < (duesM M).length := by omega
          rw [take_succ hid, List.map_append]
          refine (DtAll.keepT kt _ (tupDs_map tup_due _) (DtAll.same s3 _ dv)).append (.cons ?_ .nil)
          rw [getD_of (List.getElem?_eq_getElem hid)] at d3
          exact Dt.keepT kt _ (tup_due _) d3
    · obtain ⟨s2, vs, hD, lv, dv⟩ := hP
      rw [lnm, List.take_length] at hD
      rw [lnm, ← ld, List.take_length] at dv
      exact q D H2 (s1.trans s2) nDH ⟨vs, hD, dv⟩
end
end Rc

namespace Rc
open PySem PySem.Spec PyProof.Rows L2 RZ
section
variable {P : Program} {w : World} {K : PySem.W.Frag} {mg : Str → Option Value} {base : Heap}
/-! ### check_person -/
abbrev sCkP : Stmt := topS 30
theorem scCkP : FnScope ["book", "who"] ["book", "who"] (defScope sCkP) := ⟨rfl, rfl, rfl, by decide +kernel, rfl, by decide +kernel, by decide +kernel⟩
def spCkP (K : PySem.W.Frag) (C : Addr) : Sp := fun vs H Q _ => ∃ (b : Addr) (M : Bk) (z : Str), vs = [.ref b, .str z] ∧ BookAt K C H b M ∧ M.Ok ∧ z ∈ M.names ∧ ∀ H', Same H H' → Q .non H'
theorem ok_ckP {f f1 C : Addr} {fd fd1 : FuncData} (F : Fun K "check_person" "check_person" sCkP f fd) (T : ClsF K C) (HS : HasM P w K mg base C 2 "has" ["self", "who"] (spHas K C) f1 fd1) : FnOk P w K mg base CX0 3 f fd ["book", "who"] (spCkP K C) := by
  refine F.ok scCkP (fun vs H Q E h => ?_) (fun cdv A outer s H vs Q E hr h => ?_)
  · obtain ⟨_, _, _, rfl, _⟩ := h
    rfl
  · obtain ⟨b, M, z, rfl, hb, ok, hz, q⟩ := h
    refine ⟨_, pss_one (ps_if (pt_not (pt_val (pe_meth (pv 0) T.cl HS.m HS.ok hr HS.b .nil pass0 (pa_cons (pv 1) pa_nil)))) pss_never pss_nil), ?_⟩
    obtain ⟨dx, tn, on, wg, ws, wd, e, h1, hn, h2, h3, h4⟩ := hb.ex
    have lz := (nameT_len (ok.nm z hz)).2
    refine ⟨.ref b, rfl, b, dx, _, rfl, e, bf_no (NoF.mk' (by decide +kernel)), .str z, rfl, b, M, .str z, .str z, rfl, hb, ok.names, .str z, (fun y ey => by cases ey; omega), fun H1 s1 => ⟨_, rfl, ?_⟩⟩
    have eh : hasD M (.str z) = true := decide_eq_true hz
    rw [eh]
    exact iteF (q H1 s1)
/-! ### ring_of, trail_of, ends_at -/
abbrev sRgO : Stmt := topS 31
theorem scRgO : FnScope ["book", "who"] ["book", "who"] (defScope sRgO) := ⟨rfl, rfl, rfl, by decide +kernel, rfl, by decide +kernel, by decide +kernel⟩
def spRgO (K : PySem.W.Frag) (C : Addr) : Sp := fun vs H Q _ => ∃ (b : Addr) (M : Bk) (z : Str), vs = [.ref b, .str z] ∧ BookAt K C H b M ∧ M.Ok ∧ Closed M ∧ z ∈ M.names ∧ ∀ v H', Same H H' → RingV H H' v (ringM M.names (nxM M) z) → Q v H'
theorem ok_rgO {f f1 f2 f3 C : Addr} {fd fd1 fd2 fd3 : FuncData} (F : Fun K "ring_of" "ring_of" sRgO f fd) (CP : Has P w K mg base 3 "check_person" ["book", "who"] (spCkP K C) f1 fd1)
    (RB : Has P w K mg base 2 "ring_by" ["dues", "who"] (spRgB K) f2 fd2) (AD : Has P w K mg base 7 "all_dues" ["book"] (spDues K C) f3 fd3) : FnOk P w K mg base CX0 8 f fd ["book", "who"] (spRgO K C) := by
  refine F.ok scRgO (fun vs H Q E h => ?_) (fun cdv A outer s H vs Q E hr h => ?_)
  · obtain ⟨_, _, _, rfl, _⟩ := h
    rfl
  · obtain ⟨b, M, z, rfl, hb, ok, cl, hz, q⟩ := h
    refine ⟨_, pss_cons (ps_expr (pe_call CP.ok (hr.mono (by decide)) (by rfl) CP.g CP.kp CP.b .nil pass0 (pa_cons (pv 0) (pa_cons (pv 1) pa_nil))))
      (pss_one (ps_ret (pe_call RB.ok (hr.mono (by decide)) (by rfl) RB.g RB.kp RB.b .nil pass0 (pa_cons (pe_call AD.ok hr (by rfl) AD.g AD.kp AD.b .nil pass0 (pa_cons (pv 0) pa_nil)) (pa_cons (pv 1) pa_nil))))), ?_⟩
    refine ⟨.ref b, rfl, .str z, rfl, b, M, z, rfl, hb, ok, hz, fun H1 s1 => ?_⟩
    refine ⟨.ref b, rfl, b, M, rfl, book_same hb s1, ok, fun d H2 s2 nd hd => ?_⟩
    refine ⟨.str z, rfl, d, z, M.names, duesM M, rfl, hd.at, walks_of ok cl, hz, fun v H3 s3 rv => ?_⟩
    exact q v H3 (s1.trans (s2.trans s3)) (rv.same (Same.refl _) (s1.trans s2))
end
end Rc

namespace Rc
open PySem PySem.Spec PyProof.Rows L2 RZ
section
variable {X : Cx}
theorem ix_listS {K : PySem.W.Frag} (e : X.K = K) : IxR X (rIxL K) := by
  subst e
  exact ix_list
theorem ix_tupS {K : PySem.W.Frag} (e : X.K = K) : IxR X (rIxT K) := by
  subst e
  exact ix_tup
theorem mt_indexS {K : PySem.W.Frag} (e : X.K = K) : MtR X "list.index" (rIndex K) := by
  subst e
  exact mt_index
theorem pe_bmK {K : PySem.W.Frag} (eK : X.K = K) {o e : Expr} {es : List Expr} {to : TE} {t : TA} {name : Str} {apos cpos : Pos} {T id : String} {r : V → List V → Hp → VK → Prop} (pa : PlainAttrs T) (slot : Slot T name id) (hty : typeOf (.builtin id) = pure (.type "method_descriptor")) (hm : MtR X id r) (ho : PE X o to) (ha : PA X (e :: es) t)
    (hbase : attributeBase o name X.env (eval o X.env) = eval o X.env := by rfl)
    (hfew : ((backTo cpos (starEach (e :: es) X.env)).all (fun x => !x.1) && (backToKw cpos (keywordEach [] X.env)).all (fun x => x.1.isSome)
      && decide ((e :: es).length + ([] : List Keyword).length + (if ([] : List Keyword).isEmpty then 0 else 1) < 30)) = true := by rfl)
    (hline : (apos.endLine == cpos.line) = true := by rfl) (hs : starEach (e :: es) X.env = (false, eval e X.env) :: starEach es X.env := by rfl) (hplain : (backTo cpos (starEach es X.env)).any (·.1) = false := by rfl) :
    PE X (.Call (.Attribute o name apos) (e :: es) [] cpos) (tBM K T r to t) := by
  subst eK
  exact pe_bm pa slot hty hm ho ha hbase hfew hline hs hplain
end
/-- a model that may be -/
structure Gs (zs : List Str) (D : Md) : Prop where
  nz : NamesOk zs
  nt : ∀ l ∈ D.notes, ∀ n ∈ l, NoteOk zs n
  fl : ∀ f ∈ D.fallen, 0 ≤ f
  my : (D.notes.map List.length).sum ≤ 60
  lg : D.given.length = zs.length
  lf : D.fallen.length = zs.length
  ln : D.notes.length = zs.length
  cs : ∀ (j : Nat) (z : Str), zs[j]? = some z → 0 ≤ cashM (bkOf zs D) j z
theorem Gs.ok {zs : List Str} {D : Md} (g : Gs zs D) : (bkOf zs D).Ok := ⟨g.nz.n0, g.nz.n1, g.nz.nd, g.nz.nm, g.lg, g.ln, g.lf, g.my⟩
theorem Gs.closed {zs : List Str} {D : Md} (g : Gs zs D) : Closed (bkOf zs D) := fun l hl n hn => (g.nt l hl n hn).1
theorem Gs.rows {zs : List Str} {D : Md} (g : Gs zs D) : RowsOk D := fun l hl => Nat.le_trans (len_le_sum hl) g.my
theorem Gs.walks {zs : List Str} {D : Md} (g : Gs zs D) : Walks zs (duesM (bkOf zs D)) := walks_of g.ok g.closed
theorem Gs.left {zs : List Str} {D : Md} (g : Gs zs D) {j : Nat} {l : List (Str × Int)} {f : Int} (el : D.notes[j]? = some l) (ef : D.fallen[j]? = some f) : ∀ n ∈ leftN l f, NoteOk zs n :=
  leftN_ok (g.nt l (List.mem_of_getElem? el)) (g.fl f (List.mem_of_getElem? ef))
theorem Gs.due {zs : List Str} {D : Md} (g : Gs zs D) {n : Str × Int} (h : some n ∈ duesM (bkOf zs D)) : NoteOk zs n := by
  obtain ⟨l, f, hl, hf, hn⟩ := dues_mem h
  exact leftN_ok (g.nt l hl) (g.fl f hf) n hn
/-- what the law's walk goes by -/
abbrev nxD (zs : List Str) (D : Md) : Str → Option Str := nxOf zs (duesM (bkOf zs D))
theorem nxD_at {zs : List Str} {D : Md} {j : Nat} {z : Str} {l : List (Str × Int)} {f : Int} (nd : zs.Nodup) (ej : zs[j]? = some z) (el : D.notes[j]? = some l) (ef : D.fallen[j]? = some f) : nxD zs D z = (leftN l f).head?.map (·.1) := by
  have hj : j < zs.length := (List.getElem?_eq_some_iff.mp ej).1
  have ez : zs[j] = z := (List.getElem?_eq_some_iff.mp ej).2
  have ei : zs.idxOf z = j := by
    rw [← ez]
    exact nd.idxOf_getElem j hj
  show ((duesM (bkOf zs D)).getD (zs.idxOf z) none).map (·.1) = _
  rw [ei, getD_of (dues_at (M := bkOf zs D) el ef)]
end Rc

namespace Rc
open PySem PySem.Spec PyProof.Rows L2 RZ
theorem notes_dp {K : PySem.W.Frag} {H : Hp} {m : Addr} {mx : List V} {l : List (Str × Int)} (h : H m = some (.lst mx)) (d : DtAll K H mx (notesD l)) : Dp K H (.ref m) (.list (notesD l)) := .lst (.inl (.inl h)) (DtAll.dp _ (tup_notes l) d)
theorem shaped_nil : SeqAt.shaped (.list []) = true := by decide +kernel
section
variable {P : Program} {w : World} {K : PySem.W.Frag} {mg : Str → Option Value} {base : Heap}
/-! ### _law_next -/
abbrev sLNx : Stmt := topS 55
theorem scLNx : FnScope ["_law_model_here", "_law_who", "_law_left_here"] ["_law_model_here", "_law_who"] (defScope sLNx) := ⟨rfl, rfl, rfl, by decide +kernel, rfl, by decide +kernel, by decide +kernel⟩
def spLNx (K : PySem.W.Frag) : Sp := fun vs H Q _ => ∃ (a : MdA) (D : Md) (zs : List Str) (z : Str), vs = [.ref a.m, .str z] ∧ ModelAt K H zs a D ∧ Gs zs D ∧ z ∈ zs ∧ ∀ H', Same H H' → Q (nxV (nxD zs D z)) H'
theorem ok_lnx {f f1 : Addr} {fd fd1 : FuncData} (F : Fun K "_law_next" "_law_next" sLNx f fd) (LL : Has P w K mg base 2 "_law_left" ["_law_model_here", "_law_who"] (spLLf K) f1 fd1) : FnOk P w K mg base CX0 3 f fd ["_law_model_here", "_law_who"] (spLNx K) := by
  refine F.ok scLNx (fun vs H Q E h => ?_) (fun cdv Ar outer s H vs Q E hr h => ?_)
  · obtain ⟨_, _, _, _, rfl, _⟩ := h
    rfl
  · obtain ⟨a, D, zs, z, rfl, hM, g, hz, q⟩ := h
    refine ⟨_, pss_cons (ps_set (i := 2) scLNx.nd rfl (.inl rfl) (pe_call LL.ok hr (by rfl) LL.g LL.kp LL.b .nil pass0 (pa_cons (pv 0) (pa_cons (pv 1) pa_nil))))
      (pss_one (ps_ret (pe_ifExp (pt_cmpR (op_neD hr.units) (pv 2) (pe_lst pa_nil) (nomark _)) (pe_ix ix_tup (pe_ix ix_list (pv 2) pe_int (fun _ _ => rfl)) pe_int (fun _ _ => rfl)) pe_non))), ?_⟩
    have ej := idx_get hz
    obtain ⟨gv, f', l', r, xs, eg, ef, el, er, hr0, hd0⟩ := hM.at_ ej
    have ll := g.rows l' (List.mem_of_getElem? el)
    have en := nxD_at hM.zn ej el ef
    have gl := g.left el ef
    refine ⟨.ref a.m, rfl, .str z, rfl, a, D, zs, z, _, l', f', rfl, hM, ej, el, ef, by omega, fun m mx H1 s1 nm hm dm => ?_⟩
    rw [en] at q
    generalize leftN l' f' = L at dm q gl
    refine ⟨.ref m, rfl, Nat.zero_le _, fun e ne => ?_⟩
    have s2 := same_upd (o := .lst []) ne
    have he : upd H1 e (.lst []) e = some (.lst []) := upd_same
    generalize upd H1 e (.lst []) = H2 at s2 he
    have hm2 := s2 _ _ hm
    have dm2 := DtAll.same s2 _ dm
    refine ⟨.list (notesD L), .list [], notes_dp hm2 dm2, .lst (.inl (.inl he)) .nil, nice_shaped (nice_notes g.nz.nm gl).list, shaped_nil, _, rfl, ?_⟩
    cases L with
    | nil => exact iteF (q H2 (s1.trans s2))
    | cons n t =>
      cases dm2 with
      | cons d1 d2 =>
        rename_i x xr
        obtain ⟨ta, rfl, qt⟩ := note_inv d1
        exact iteT ⟨.ref m, rfl, m, _, 0, .ref ta, rfl, rfl, .inl (.inl hm2), atI_nat (j := 0) rfl, ta, _, 0, .str n.1, rfl, rfl, qt, rfl, q H2 (s1.trans s2)⟩
/-! ### _law_trail -/
abbrev sLTr : Stmt := topS 56
theorem scLTr : FnScope ["_law_model_here", "_law_who", "_law_found", "_law_here"] ["_law_model_here", "_law_who"] (defScope sLTr) := ⟨rfl, rfl, rfl, by decide +kernel, rfl, by decide +kernel, by decide +kernel⟩
def spLTr (K : PySem.W.Frag) : Sp := fun vs H Q _ => ∃ (a : MdA) (D : Md) (zs : List Str) (z : Str), vs = [.ref a.m, .str z] ∧ ModelAt K H zs a D ∧ Gs zs D ∧ z ∈ zs ∧
  ∀ T t H', Same H H' → H t = none → H' T = some (.tup [.ref t, nxV (endM zs (nxD zs D) z)]) → H' t = some (.lst ((trailM zs (nxD zs D) z).map V.str)) → Q (.ref T) H'
theorem ok_ltr {f f1 : Addr} {fd fd1 : FuncData} (F : Fun K "_law_trail" "_law_trail" sLTr f fd) (LN : Has P w K mg base 3 "_law_next" ["_law_model_here", "_law_who"] (spLNx K) f1 fd1) : FnOk P w K mg base CX0 4 f fd ["_law_model_here", "_law_who"] (spLTr K) := by
  refine F.ok scLTr (fun vs H Q E h => ?_) (fun cdv Ar outer s H vs Q E hr h => ?_)
  · obtain ⟨_, _, _, _, rfl, _⟩ := h
    rfl
  · obtain ⟨a, D, zs, z, rfl, hM, g, hz, q⟩ := h
    refine ⟨_, pss_cons (ps_set (i := 2) scLTr.nd rfl (.inl rfl) (pe_lst (pa_cons (pv 1) pa_nil)))
      (pss_cons (ps_set (i := 3) scLTr.nd rfl (.inl rfl) (pe_call LN.ok hr (by rfl) LN.g LN.kp LN.b .nil pass0 (pa_cons (pv 0) (pa_cons (pv 1) pa_nil))))
      (pss_cons (ps_while PassesOwn.never (PW.pt (pw_and (pt_cmpR op_notN (pv 3) pe_non (nomark _)) (pw_and1 (pt_cmpR op_notIn_seq (pv 3) (pv 2) (by rfl)))))
        (pss_cons (ps_expr (pe_bm PySem.F.plainAttrs_list PySem.F.slot_list_append PySem.F.type_list_append mt_append (pv 2) (pa_cons (pv 3) pa_nil)))
        (pss_one (ps_set (i := 3) scLTr.nd rfl (.inl rfl) (pe_call LN.ok hr (by rfl) LN.g LN.kp LN.b .nil pass0 (pa_cons (pv 0) (pa_cons (pv 3) pa_nil)))))))
      (pss_one (ps_ret (pe_tup (pa_cons (pv 2) (pa_cons (pe_ifExp (pt_cmpR op_isN (pv 3) pe_non (nomark _)) (pe_ix ix_list (pv 2) (pe_un un_neg pe_int) (fun _ _ => rfl)) pe_non) pa_nil))))))), ?_⟩
    have wk := g.walks
    refine ⟨.str z, rfl, by show 1 ≤ sizeLine; decide, fun t nt => ?_⟩
    have s1 := same_upd (o := .lst [V.str z]) nt
    have ht1 : upd H t (.lst [V.str z]) t = some (.lst [V.str z]) := upd_same
    generalize upd H t (.lst [V.str z]) = H1 at s1 ht1
    refine ⟨.ref a.m, rfl, .str z, rfl, a, D, zs, z, rfl, model_same hM s1, g, hz, fun H2 s2 => ?_⟩
    refine ⟨fun k σ H' => ∃ acc o, σ = [some (.ref a.m), some (.str z), some (.ref t), some (nxV o)] ∧ Same H H' ∧ H' t = some (.lst (List.map V.str acc)) ∧ TrailAt zs (nxD zs D) z k acc o,
      ⟨zs.length, [z], nxD zs D z, rfl, s1.trans s2, s2 _ _ ht1, TrailAt.start hz⟩, ?_⟩
    rintro k σ H' ⟨acc, o, rfl, s3, ht, ta⟩
    have lacc : acc.length ≤ 12 := Nat.le_trans (nodup_le _ _ ta.nd ta.sub) wk.lz
    have fin : (o = none ∨ ∃ y, o = some y ∧ y ∈ acc) → tRet (tTup (tCons (tVar 2) (tCons (tIf (tTest (tOp (fun x y H Q => y = .non ∧ Q (.bl (decide (x = .non))) H) (tVar 3) (tC .non))) (tOp (rIxL K) (tVar 2) (tUn (rU fun i => .int (-i)) (tC (.int 1)))) (tC .non)) tNil))) { nx := fun _ H' => Q .non H', rt := Q } [some (.ref a.m), some (.str z), some (.ref t), some (nxV o)] H' := fun hend => by
      obtain ⟨ea, en⟩ := ta.ended hend
      obtain ⟨ini, y, eT, eL⟩ := en.last
      have eL2 := lastM_eq eT
      have ee : endM zs (nxD zs D) z = if o = none then some y else none := by
        unfold endM
        rw [eL2, eL]
      refine ⟨.ref t, rfl, nxV o, rfl, rfl, _, rfl, ?_⟩
      have stop : ∀ v, v = nxV (endM zs (nxD zs D) z) → [V.ref t, v].length ≤ sizeLine ∧ ∀ p, H' p = none → Q (.ref p) (upd H' p (.tup [.ref t, v])) := fun v ev => by
        refine ⟨by show 2 ≤ sizeLine; decide, fun p np => ?_⟩
        rw [ev]
        refine q p t _ (s3.trans (same_upd np)) nt upd_same ?_
        rw [← ea]
        exact same_upd np _ _ ht
      cases o with
      | none =>
        rw [show decide (nxV none = .non) = true from decide_eq_true rfl]
        refine iteT ⟨.ref t, rfl, _, rfl, t, _, -1, .str y, rfl, rfl, .inl (.inl ht), ?_, ?_⟩
        · rw [ea, eT, List.map_append]
          exact atI_last _ _
        · exact stop _ (by rw [ee]; rfl)
      | some x =>
        rw [show decide (nxV (some x) = .non) = false from decide_eq_false (fun c => by cases c)]
        exact iteF (stop _ (by rw [ee]; rfl))
    cases o with
    | none =>
      refine ⟨nxV none, rfl, rfl, _, rfl, ?_⟩
      rw [show decide (nxV none = .non) = true from decide_eq_true rfl]
      exact iteF (iteF (fin (.inl rfl)))
    | some y =>
      refine ⟨nxV (some y), rfl, rfl, _, rfl, ?_⟩
      rw [show decide (nxV (some y) = .non) = false from decide_eq_false (fun c => by cases c)]
      refine iteT ⟨.str y, rfl, .ref t, rfl, t, _, rfl, .inl (.inl (.inl ht)), rfl, flat_strs _, _, rfl, ?_⟩
      show if (!inV (.str y) (acc.map V.str)) = true then _ else _
      rw [inV_strs]
      by_cases hin : y ∈ acc
      · rw [decide_eq_true hin]
        exact iteF (fin (.inr ⟨y, rfl, hin⟩))
      · rw [decide_eq_false hin]
        obtain ⟨k', rfl, ta'⟩ := ta.step wk.ld hin
        refine iteT ⟨fun σ2 H2 => ∃ acc o, σ2 = [some (.ref a.m), some (.str z), some (.ref t), some (nxV o)] ∧ Same H H2 ∧ H2 t = some (.lst (List.map V.str acc)) ∧ TrailAt zs (nxD zs D) z k' acc o, fun σ2 H2 h2 => ⟨k', by omega, h2⟩, ?_⟩
        refine ⟨.ref t, rfl, .inl ⟨rfl, _, .inl (.inl ht)⟩, .str y, rfl, t, _, _, rfl, rfl, ht, by rw [List.length_map]; exact small1000 (by omega), ?_⟩
        have s4 : Same H (upd H' t (.lst (acc.map V.str ++ [.str y]))) := fun c u ec => by
          rw [upd_ne (ne_of_none ec nt)]
          exact s3 c u ec
        have hy : y ∈ zs := by
          obtain ⟨_, x, _, ex⟩ := ta.last
          exact wk.ld x y ex.symm
        refine ⟨.ref a.m, rfl, .str y, rfl, a, D, zs, y, rfl, model_same hM s4, g, hy, fun H5 s5 => ?_⟩
        refine ⟨acc ++ [y], nxD zs D y, rfl, s4.trans s5, s5 _ _ ?_, ta'⟩
        rw [upd_same, List.map_append]
        rfl
/-! ### _law_ring -/
abbrev sLRg : Stmt := topS 57
abbrev nLRg : List Str := ["_law_model_here", "_law_who", "_law_found", "_law_end", "_law_first", "_law_at", "_law_name_here"]
theorem scLRg : FnScope nLRg ["_law_model_here", "_law_who"] (defScope sLRg) := ⟨rfl, rfl, rfl, by decide +kernel, rfl, by decide +kernel, by decide +kernel⟩
def spLRg (K : PySem.W.Frag) : Sp := fun vs H Q _ => ∃ (a : MdA) (D : Md) (zs : List Str) (z : Str), vs = [.ref a.m, .str z] ∧ ModelAt K H zs a D ∧ Gs zs D ∧ z ∈ zs ∧ ∀ v H', Same H H' → RingV H H' v (ringM zs (nxD zs D) z) → Q v H'
theorem ok_lrg {f f1 f2 : Addr} {fd fd1 fd2 : FuncData} (F : Fun K "_law_ring" "_law_ring" sLRg f fd) (B2 : Blt2 mg) (LN : Has P w K mg base 3 "_law_next" ["_law_model_here", "_law_who"] (spLNx K) f1 fd1) (LT : Has P w K mg base 4 "_law_trail" ["_law_model_here", "_law_who"] (spLTr K) f2 fd2) :
    FnOk P w K mg base CX0 5 f fd ["_law_model_here", "_law_who"] (spLRg K) := by
  refine F.ok scLRg (fun vs H Q E h => ?_) (fun cdv Ar outer s H vs Q E hr h => ?_)
  · obtain ⟨_, _, _, _, rfl, _⟩ := h
    rfl
  · obtain ⟨a, D, zs, z, rfl, hM, g, hz, q⟩ := h
    have hu := hu_of hr
    have hr3 := hr.mono (show 3 ≤ 4 by decide)
    refine ⟨_, pss_cons (ps_asg (pe_call LT.ok hr (by rfl) LT.g LT.kp LT.b .nil pass0 (pa_cons (pv 0) (pa_cons (pv 1) pa_nil))) (pg_tup rfl (pgs_cons (pg_name (i := 2) scLRg.nd rfl (.inl rfl)) (pgs_cons (pg_name (i := 3) scLRg.nd rfl (.inl rfl)) pgs_nil))))
      (pss_cons (ps_if (PW.pt (pw_or (pt_cmpR op_notN (pv 3) pe_non (nomark _)) (pw_or1 (pt_cmpR op_ne (pe_call LN.ok hr3 (by rfl) LN.g LN.kp LN.b .nil pass0 (pa_cons (pv 0) (pa_cons (pe_ix ix_list (pv 2) (pe_un un_neg pe_int) (fun _ _ => rfl)) pa_nil))) (pv 1) (nomark _))))) (pss_one (ps_ret pe_non)) pss_nil)
      (pss_cons (ps_set (i := 4) scLRg.nd rfl (.inl rfl) (pe_callB (cr_min rfl) (by rfl) B2.min (by decide +kernel) (pa_cons
        (pe_lc (own := [("_law_name_here", 6)]) (g := gName 6) (tt := tYes) (te := tBM K "list" (rIndex K) (tDGet (tVar 0) (tC (.str "order"))) (tCons (tVar 6) tNil)) rfl scLRg.nd (pi_list (pv 2)) (blkOk_by (N := nLRg) (sc := defScope sLRg) (own := [("_law_name_here", 6)]) (by decide +kernel))
          (fun _ _ _ _ _ => pg_name (i := 6) scLRg.nd rfl (.inl rfl) (hf := .inr rfl)) (fun _ _ _ _ _ => pts_nil)
          (fun _ _ _ _ _ => pe_bmK (K := K) rfl PySem.F.plainAttrs_list PySem.F.slot_list_index PySem.F.type_list_index (mt_indexS (K := K) rfl) (pe_dget hu (pv 0) pe_str (fun _ _ => rfl)) (pa_cons (pv 6) pa_nil))) pa_nil)))
      (pss_cons (ps_set (i := 5) scLRg.nd rfl (.inl rfl) (pe_bm PySem.F.plainAttrs_list PySem.F.slot_list_index PySem.F.type_list_index mt_index (pv 2) (pa_cons (pe_ix ix_list (pe_dget hu (pv 0) pe_str (fun _ _ => rfl)) (pv 4) (fun _ _ => rfl)) pa_nil)))
      (pss_one (ps_ret (pe_op op_cat (pe_slice sl_list (pv 2) (po_some (pv 5)) po_none) (pe_slice sl_list (pv 2) po_none (po_some (pv 5))))))))), ?_⟩
    have wk := g.walks
    have en := trail_ended wk.ld hz
    obtain ⟨ini, y, eT, eL⟩ := en.last
    have hyT : y ∈ trailM zs (nxD zs D) z := by
      rw [eT]
      exact List.mem_append.mpr (.inr List.mem_cons_self)
    have hy : y ∈ zs := en.sub y hyT
    have eL2 := lastM_eq eT
    have hzT : z ∈ trailM zs (nxD zs D) z := by
      obtain ⟨r, er⟩ := en.first
      rw [er]
      exact List.mem_cons_self
    have lT : (trailM zs (nxD zs D) z).length ≤ 12 := Nat.le_trans (nodup_le _ _ en.nd en.sub) wk.lz
    have sub := en.sub
    refine ⟨.ref a.m, rfl, .str z, rfl, a, D, zs, z, rfl, hM, g, hz, fun TT t H1 s1 nt hTT ht => ?_⟩
    refine ⟨TT, _, rfl, .inl (.inl hTT), rfl, _, _, rfl, _, _, rfl, rfl, ?_⟩
    have er : ringM zs (nxD zs D) z = if nxD zs D y = some z then some ((trailM zs (nxD zs D) z).drop ((trailM zs (nxD zs D) z).idxOf (firstM zs (trailM zs (nxD zs D) z))) ++ (trailM zs (nxD zs D) z).take ((trailM zs (nxD zs D) z).idxOf (firstM zs (trailM zs (nxD zs D) z)))) else none := by
      unfold ringM
      rw [eL2]
    have ee : endM zs (nxD zs D) z = if nxD zs D y = none then some y else none := by
      unfold endM
      rw [eL2]
    rw [er] at q
    rw [ee]
    have hM1 := model_same hM s1
    generalize trailM zs (nxD zs D) z = TT at hzT lT ht eT hyT q sub
    cases ho : nxD zs D y with
    | none =>
      rw [ho] at q
      refine ⟨.str y, rfl, rfl, _, rfl, ?_⟩
      rw [decide_eq_false (fun c => by cases c)]
      exact iteT (iteT (q .non H1 s1 rfl))
    | some x =>
      rw [ho] at q
      refine ⟨.non, rfl, rfl, _, rfl, ?_⟩
      rw [decide_eq_true rfl]
      refine iteF ⟨.ref a.m, rfl, .ref t, rfl, _, rfl, t, _, -1, .str y, rfl, rfl, .inl (.inl ht), ?_, a, D, zs, y, rfl, hM1, g, hy, fun H2 s2 => ?_⟩
      · rw [eT, List.map_append]
        exact atI_last _ _
      rw [ho]
      have s12 := s1.trans s2
      have hM2 := model_same hM s12
      have ht2 := s2 _ _ ht
      refine ⟨.str z, rfl, rfl, _, rfl, ?_⟩
      by_cases hx : x = z
      · rw [show decide (nxV (some x) = V.str z) = true from decide_eq_true (by rw [hx]; rfl)]
        rw [if_pos (congrArg some hx)] at q
        refine iteF ?_
        refine ⟨.ref t, rfl, t, rfl, ⟨_, .inl (.inl ht2)⟩, fun D0 nD0 => ?_⟩
        refine lc_it (walk_list (K := K) (a := t) (xs := TT.map V.str)) (fun i H' => Same H2 H' ∧ H' D0 = some (.lst (((TT.take i).map fun x => ((zs.idxOf x : Nat) : Int)).map V.int))) ⟨same_upd nD0, upd_same⟩ (fun i H' _ hP => .inl (.inl (hP.1 _ _ ht2)))
          (fun i v H3' H3 hi hP hY => ?_) (fun H3 hP => ?_)
        · obtain ⟨rfl, hv⟩ := hY
          rw [List.length_map] at hi
          have ex : v = .str TT[i] := by
            rw [List.getElem?_map, List.getElem?_eq_getElem hi] at hv
            exact (Option.some.inj hv).symm
          subst ex
          have hM3 := model_same hM2 hP.1
          have hin : TT[i] ∈ zs := sub _ (List.getElem_mem hi)
          refine ⟨rfl, .ref a.m, rfl, a.m, .ref a.lo, rfl, hM3.g0, .inl ⟨rfl, _, .inl (.inl hM3.ho)⟩, _, rfl, a.lo, _, _, zs.idxOf TT[i], .str TT[i], rfl, rfl, .inl (.inl hM3.ho), rfl, flat_strs _, map_get (idx_get hin), by rw [str_eqV]; simp, fun m z' hm e' => ?_, _, hP.2, ?_, fun c o ec => ?_, ?_⟩
          · rw [List.getElem?_map] at e'
            obtain ⟨x', ex, rfl⟩ := Option.map_eq_some_iff.mp e'
            rw [str_eqV]
            exact beq_eq_false_iff_ne.mpr (idx_first hm ex)
          · rw [List.length_map, List.length_map, List.length_take]
            exact small1000 (by omega)
          · rw [upd_ne (ne_of_none ec nD0)]
            exact hP.1 c o ec
          · rw [upd_same, take_succ hi, List.map_append, List.map_append]
            rfl
        · obtain ⟨s3, hD0⟩ := hP
          rw [List.length_map, List.take_length] at hD0
          refine ⟨D0, TT.map fun x => ((zs.idxOf x : Nat) : Int), rfl, .inl (.inl hD0), by rw [List.length_map]; exact List.length_pos_of_mem hzT, fun m hm hmin => ?_⟩
          obtain ⟨f0, hf0, rfl⟩ := List.mem_map.mp hm
          have f0z : f0 ∈ zs := sub f0 hf0
          have e1 : firstM zs TT = f0 := first_min wk.nd (idx_get f0z) hf0 fun x' hx' => by
            have := hmin _ (List.mem_map.mpr ⟨x', hx', rfl⟩)
            omega
          rw [e1] at q
          have hM3 := model_same hM2 s3
          have ht3 := s3 _ _ ht2
          refine ⟨.ref t, rfl, .inl ⟨rfl, _, .inl (.inl ht3)⟩, .ref a.m, rfl, a.m, .ref a.lo, rfl, hM3.g0, _, rfl, a.lo, _, _, .str f0, rfl, rfl, .inl (.inl hM3.ho), atI_nat (map_get (idx_get f0z)), ?_⟩
          refine ⟨t, _, .str f0, TT.idxOf f0, .str f0, rfl, rfl, .inl (.inl ht3), rfl, flat_strs _, map_get (idx_get hf0), by rw [str_eqV]; simp, fun m z' hm e' => ?_, ?_⟩
          · rw [List.getElem?_map] at e'
            obtain ⟨x', ex, rfl⟩ := Option.map_eq_some_iff.mp e'
            rw [str_eqV]
            exact beq_eq_false_iff_ne.mpr (idx_first hm ex)
          · refine ⟨.ref t, rfl, .int (TT.idxOf f0 : Nat), rfl, _, rfl, t, _, rfl, .inl (.inl ht3), fun p1 n1 => ?_⟩
            rw [cut_drop, ← List.map_drop]
            have s4 := same_upd (o := .lst ((TT.drop (TT.idxOf f0)).map V.str)) n1
            refine ⟨.ref t, rfl, .int (TT.idxOf f0 : Nat), rfl, _, rfl, t, _, rfl, .inl (.inl (s4 _ _ ht3)), fun p2 n2 => ?_⟩
            rw [cut_take, ← List.map_take]
            have s5 := same_upd (o := .lst ((TT.take (TT.idxOf f0)).map V.str)) n2
            refine ⟨p1, p2, _, _, rfl, rfl, s5 _ _ upd_same, upd_same, ?_, fun p np => ?_⟩
            · rw [List.length_map, List.length_map, List.length_drop, List.length_take]
              exact small_line (by omega)
            · have s6 := same_upd (o := .lst ((TT.drop (TT.idxOf f0)).map V.str ++ (TT.take (TT.idxOf f0)).map V.str)) np
              refine q (.ref p) _ (s12.trans (s3.trans (s4.trans (s5.trans s6)))) ⟨p, rfl, (s12.trans (s3.trans (s4.trans s5))).free np, ?_⟩
              rw [upd_same, List.map_append]
      · rw [show decide (nxV (some x) = V.str z) = false from decide_eq_false (fun c => hx (V.str.inj c))]
        rw [if_neg (fun c => hx (Option.some.inj c))] at q
        exact iteT (q .non H2 s12 rfl)
end
end Rc

namespace Rc
open PySem PySem.Spec PyProof.Rows L2 RZ
/-! ### the model's own changes -/
section
variable {K : PySem.W.Frag} {H : Hp} {zs : List Str} {a : MdA} {D : Md}
theorem ModelAt.ofm (h : ModelAt K H zs a D) (n0 : 1 ≤ zs.length) : a.df ≠ a.m := fun z => by
  have e := h.hf
  rw [z, h.hm] at e
  have e1 : dct keysM [.ref a.lo, .ref a.dg, .ref a.df, .ref a.dn] = dct zs (D.fallen.map V.int) := HO.dK.inj (Option.some.inj e)
  have l2 := h.lf
  match zs, D.fallen, n0, l2, e1 with
  | z :: r, y :: u, _, _, e1 =>
    rw [List.map_cons, dct_cons] at e1
    unfold keysM at e1
    rw [dct_cons] at e1
    cases e1
/-- another sum fallen -/
theorem ModelAt.setF (hM : ModelAt K H zs a D) (n0 : 1 ≤ zs.length) {j : Nat} (g : Int) : ModelAt K (upd H a.df (.dK (dct zs ((D.fallen.set j g).map V.int)))) zs a { D with fallen := D.fallen.set j g } := by
  have kt : KT H (upd H a.df (.dK (dct zs ((D.fallen.set j g).map V.int)))) := kt_upd hM.hf fun z => z
  have lne : ∀ {c : Addr} {ys : List V}, H c = some (.lst ys) → c ≠ a.df := fun {c ys} e z => by
    rw [z, hM.hf] at e
    cases e
  refine ⟨?_, ?_, ?_, ?_, ?_, fun i r l e1 e2 => ?_, hM.nd, hM.olo, hM.ogf, hM.ogn, hM.ogm, hM.omn, hM.zn, hM.lg, ?_, hM.ln, hM.lr⟩
  · rw [upd_ne (hM.ofm n0).symm]
    exact hM.hm
  · rw [upd_ne (lne hM.ho)]
    exact hM.ho
  · rw [upd_ne hM.ogf]
    exact hM.hg
  · rw [upd_same]
  · rw [upd_ne (hM.ofn n0).symm]
    exact hM.hn
  · obtain ⟨xs, e3, d3⟩ := hM.rows i r l e1 e2
    refine ⟨xs, ?_, DtAll.keepT kt _ (tup_notes l) d3⟩
    rw [upd_ne (lne e3)]
    exact e3
  · show (D.fallen.set _ _).length = _
    rw [List.length_set]
    exact hM.lf
/-- one note more -/
theorem ModelAt.app (hM : ModelAt K H zs a D) {j : Nat} {r t : Addr} {xs : List V} {l : List (Str × Int)} {y : Str} {n : Int} (er : a.rs[j]? = some r) (el : D.notes[j]? = some l) (hr0 : H r = some (.lst xs)) (hd0 : DtAll K H xs (notesD l)) (nt : H t = none) :
    ModelAt K (upd (upd H t (.tup [.str y, .int n])) r (.lst (xs ++ [.ref t]))) zs a { D with notes := D.notes.set j (l ++ [(y, n)]) } ∧ ButF a H (upd (upd H t (.tup [.str y, .int n])) r (.lst (xs ++ [.ref t]))) := by
  have tr : t ≠ r := (ne_of_none hr0 nt).symm
  have rm : r ∈ a.rs := List.mem_of_getElem? er
  have bf' : ButF a H (upd (upd H t (.tup [V.str y, V.int n])) r (.lst (xs ++ [V.ref t]))) := fun b o nf e => by
    have nb : b ≠ r := fun z => nf (.inr (by rw [z]; exact rm))
    rw [upd_ne nb, upd_ne (ne_of_none e nt)]
    exact e
  have keepD : ∀ {b : Addr} {o : HO}, b ≠ r → H b = some o → upd (upd H t (.tup [V.str y, V.int n])) r (.lst (xs ++ [V.ref t])) b = some o := fun {b o} n e => by
    rw [upd_ne n, upd_ne (ne_of_none e nt)]
    exact e
  have dne : ∀ {b : Addr} {kvs : List (Key × V)}, H b = some (.dK kvs) → b ≠ r := fun {b kvs} e z => by
    rw [z, hr0] at e
    cases e
  have hkt := bf'.kt hM
  refine ⟨⟨keepD (dne hM.hm) hM.hm, keepD (fun z => hM.olo (by rw [z]; exact rm)) hM.ho, keepD (dne hM.hg) hM.hg, keepD (dne hM.hf) hM.hf, keepD (dne hM.hn) hM.hn, fun i r' l' e1 e2 => ?_, hM.nd, hM.olo, hM.ogf, hM.ogn, hM.ogm, hM.omn, hM.zn, hM.lg, hM.lf, ?_, hM.lr⟩, bf'⟩
  · by_cases hi : i = j
    · have er' : r' = r := by
        rw [hi, er] at e1
        exact (Option.some.inj e1).symm
      subst er'
      have e2' : (D.notes.set j (l ++ [(y, n)]))[i]? = some l' := e2
      have hj : j < D.notes.length := (List.getElem?_eq_some_iff.mp el).1
      rw [hi, List.getElem?_set_self hj] at e2'
      cases e2'
      refine ⟨_, upd_same, ?_⟩
      unfold notesD
      rw [List.map_append]
      refine (DtAll.keepT hkt _ (tup_notes l) hd0).append (.cons (.tup (.inl (.inl ?_)) (.cons (.str _) (.cons (.int _) .nil))) .nil)
      rw [upd_ne tr, upd_same]
    · have e2' : (D.notes.set j (l ++ [(y, n)]))[i]? = some l' := e2
      rw [List.getElem?_set_ne (fun c => hi c.symm)] at e2'
      obtain ⟨xs', e3, d3⟩ := hM.rows i r' l' e1 e2'
      have nr' : r' ≠ r := fun c => by
        obtain ⟨h1, k1⟩ := List.getElem?_eq_some_iff.mp e1
        obtain ⟨h2, k2⟩ := List.getElem?_eq_some_iff.mp er
        exact hi ((List.getElem_inj hM.nd).mp (k1.trans (c.trans k2.symm)))
      exact ⟨xs', keepD nr' e3, DtAll.keepT hkt _ (tup_notes l') d3⟩
  · show (D.notes.set _ _).length = _
    rw [List.length_set]
    exact hM.ln
end
/-! ### where nothing has fallen yet -/
theorem Gd.gs {zs : List Str} {D : Md} {k : Nat} (h : Gd zs D k) (nz : NamesOk zs) (lg : D.given.length = zs.length) (ln : D.notes.length = zs.length) : Gs zs D := by
  refine ⟨nz, h.nt, fun f hf => ?_, Nat.le_trans h.my h.k1, lg, ?_, ln, fun j z ej => ?_⟩
  · rw [h.zf] at hf
    rw [List.eq_of_mem_replicate hf]
    exact Int.le_refl _
  · rw [h.zf]
    exact List.length_replicate
  · have hj : j < zs.length := (List.getElem?_eq_some_iff.mp ej).1
    have hg : j < D.given.length := by omega
    have hf : D.fallen[j]? = some 0 := by
      rw [h.zf]
      show (List.replicate zs.length (0 : Int))[j]? = some 0
      rw [List.getElem?_replicate, if_pos hj]
    rw [cash_eq]
    unfold cashD
    rw [h.sums, getD_of (List.getElem?_eq_getElem hg), getD_of hf]
    have := (h.gv _ (List.getElem_mem hg)).1
    omega
/-! ### what a fall does -/
theorem sum_zip_set {α : Type} (F : List (Str × Int) × Int → Int) : ∀ (L : List (List (Str × Int))) (fs : List Int) (j : Nat) (l : List (Str × Int)) (f x : Int), L[j]? = some l → fs[j]? = some f →
    ((L.zip (fs.set j x)).map F).sum = ((L.zip fs).map F).sum + (F (l, x) - F (l, f))
  | [], _, _, _, _, _, h, _ => by simp at h
  | _ :: _, [], _, _, _, _, _, h => by simp at h
  | a :: L, b :: fs, 0, l, f, x, h1, h2 => by
    simp at h1 h2
    subst h1 h2
    simp only [List.set_cons_zero, List.zip_cons_cons, List.map_cons, List.sum_cons]
    omega
  | a :: L, b :: fs, j + 1, l, f, x, h1, h2 => by
    have ih := sum_zip_set (α := α) F L fs j l f x (by simpa using h1) (by simpa using h2)
    simp only [List.set_cons_succ, List.zip_cons_cons, List.map_cons, List.sum_cons]
    omega
def fellD (D : Md) (j : Nat) (x : Int) : Md := { D with fallen := D.fallen.set j x }
theorem fellD_cash {zs : List Str} {D : Md} {j : Nat} {z t : Str} {l r : List (Str × Int)} {f m b : Int} (g : Gs zs D) (ej : zs[j]? = some z) (el : D.notes[j]? = some l) (ef : D.fallen[j]? = some f) (e : leftN l f = (t, b) :: r) (m0 : 0 ≤ m) (mb : m ≤ b)
    {i : Nat} {y : Str} (ei : zs[i]? = some y) : cashM (bkOf zs (fellD D j (f + m))) i y = cashM (bkOf zs D) i y + (if t = y then m else 0) - (if i = j then m else 0) := by
  have f0 := g.fl f (List.mem_of_getElem? ef)
  obtain ⟨_, h2⟩ := fall_one (fun n hn => (g.nt l (List.mem_of_getElem? el) n hn).2.1) f0 m0 mb e
  have e1 : fallTo (bkOf zs (fellD D j (f + m))) y = fallTo (bkOf zs D) y + (if t = y then m else 0) := by
    show ((D.notes.zip (D.fallen.set j (f + m))).map fun p => sumTo y (goneN p.1 p.2)).sum = ((D.notes.zip D.fallen).map fun p => sumTo y (goneN p.1 p.2)).sum + _
    rw [sum_zip_set (α := Nat) (fun p => sumTo y (goneN p.1 p.2)) D.notes D.fallen j l f (f + m) el ef]
    show _ + (sumTo y (goneN l (f + m)) - sumTo y (goneN l f)) = _
    rw [h2 y]
    omega
  have e2 : (bkOf zs (fellD D j (f + m))).drops.getD i 0 = (bkOf zs D).drops.getD i 0 + (if i = j then m else 0) := by
    show (D.fallen.set j (f + m)).getD i 0 = D.fallen.getD i 0 + _
    by_cases h : i = j
    · subst h
      rw [if_pos rfl, getD_of ef]
      have hj : i < D.fallen.length := (List.getElem?_eq_some_iff.mp ef).1
      rw [getD_of (List.getElem?_set_self hj)]
    · rw [if_neg h, List.getD_eq_getElem?_getD, List.getElem?_set_ne (fun c => h c.symm), List.getD_eq_getElem?_getD]
      omega
  unfold cashM
  rw [e1, e2]
  show (bkOf zs D).gifts.getD i 0 + _ - _ = _
  omega
theorem moreAt_one (z : Str) (m : Int) (y : Str) : moreAt [(z, m)] y = if z = y then m else 0 := by
  unfold moreAt
  by_cases h : z = y <;> simp [h]
theorem fell_eq {zs : List Str} {D : Md} {j : Nat} {z : Str} {f m : Int} (nd : zs.Nodup) (lf : D.fallen.length = zs.length) (ej : zs[j]? = some z) (ef : D.fallen[j]? = some f) : fallM (bkOf zs D) [(z, m)] = bkOf zs (fellD D j (f + m)) := by
  have e : ((zs.zip D.fallen).map fun p => p.2 + moreAt [(z, m)] p.1) = D.fallen.set j (f + m) := by
    refine List.ext_getElem? fun i => ?_
    rw [List.getElem?_map]
    by_cases hi : i < zs.length
    · have hf : i < D.fallen.length := by omega
      rw [List.getElem?_zip_eq_some (z := (zs[i], D.fallen[i])) |>.mpr ⟨List.getElem?_eq_getElem hi, List.getElem?_eq_getElem hf⟩]
      show some (D.fallen[i] + moreAt [(z, m)] zs[i]) = _
      rw [moreAt_one]
      obtain ⟨hj, ez⟩ := List.getElem?_eq_some_iff.mp ej
      obtain ⟨hjf, ev⟩ := List.getElem?_eq_some_iff.mp ef
      by_cases h : i = j
      · subst h
        rw [if_pos ez.symm, List.getElem?_set_self hf, ev]
      · rw [if_neg (fun c => h ((List.getElem_inj nd).mp (c.symm.trans ez.symm))), List.getElem?_set_ne (fun c => h c.symm), List.getElem?_eq_getElem hf, Int.add_zero]
    · rw [List.getElem?_eq_none (by rw [List.length_zip]; omega), List.getElem?_eq_none (by rw [List.length_set]; omega)]
      rfl
  show Bk.mk zs D.given D.notes ((zs.zip D.fallen).map fun p => p.2 + moreAt [(z, m)] p.1) = _
  rw [e]
  rfl
/-- some of a due note falls: to oneself, or by cash -/
theorem Gs.fall {zs : List Str} {D : Md} {j : Nat} {z t : Str} {l r : List (Str × Int)} {f m b : Int} (g : Gs zs D) (ej : zs[j]? = some z) (el : D.notes[j]? = some l) (ef : D.fallen[j]? = some f) (e : leftN l f = (t, b) :: r) (m0 : 0 ≤ m) (mb : m ≤ b)
    (hc : t = z ∨ m ≤ cashM (bkOf zs D) j z) : Gs zs (fellD D j (f + m)) ∧ FallOk (bkOf zs D) [(z, m)] := by
  have f0 := g.fl f (List.mem_of_getElem? ef)
  obtain ⟨h1, _⟩ := fall_one (fun n hn => (g.nt l (List.mem_of_getElem? el) n hn).2.1) f0 m0 mb e
  have cs : ∀ (i : Nat) (y : Str), zs[i]? = some y → 0 ≤ cashM (bkOf zs (fellD D j (f + m))) i y := fun i y ei => by
    rw [fellD_cash g ej el ef e m0 mb ei]
    have c0 := g.cs i y ei
    by_cases h : i = j
    · subst h
      have ey : y = z := Option.some.inj (ei.symm.trans ej)
      subst ey
      rw [if_pos rfl]
      rcases hc with hc | hc
      · rw [if_pos hc]
        omega
      · have : 0 ≤ (if t = y then m else 0) := by split <;> omega
        omega
    · rw [if_neg h]
      have : 0 ≤ (if t = y then m else 0) := by split <;> omega
      omega
  refine ⟨⟨g.nz, g.nt, fun x hx => ?_, g.my, g.lg, ?_, g.ln, cs⟩, ?_, fun i y ei => ?_⟩
  · rcases List.mem_or_eq_of_mem_set hx with hx | hx
    · exact g.fl x hx
    · omega
  · show (D.fallen.set _ _).length = _
    rw [List.length_set]
    exact g.lf
  · intro p hp
    rw [List.mem_singleton.mp hp]
    exact ⟨j, l, f, ej, el, ef, m0, h1⟩
  · rw [fell_eq g.nz.nd g.lf ej ef]
    exact cs i y ei
end Rc

namespace Rc
open PySem PySem.Spec PyProof.Rows L2 RZ
/-! ### what is told, as data -/
def ringD : Option (List Str) → PyData
  | none => .none
  | some r => .list (r.map .str)
def endD : Option Str → PyData
  | none => .none
  | some z => .str z
theorem RingV.dt {K : PySem.W.Frag} {H H' : Hp} {v : V} {o : Option (List Str)} (h : RingV H H' v o) : Dt K H' v (ringD o) := by
  cases o with
  | none =>
    have e : v = .non := h
    subst e
    exact .non
  | some r =>
    obtain ⟨a, rfl, _, e⟩ := h
    exact .lst (.inl (.inl e)) (DtAll.strs r)
theorem end_dt {K : PySem.W.Frag} {H : Hp} (o : Option Str) : Dt K H (nxV o) (endD o) := by
  cases o with
  | none => exact .non
  | some z => exact .str z
theorem NiceD.mono {d : PyData} {n m : Nat} (h : NiceD d n) (hm : n ≤ m) : NiceD d m := ⟨h.sh, h.lv, h.nd, h.dp, Nat.le_trans h.bk hm, h.cl⟩
theorem nice_none : NiceD .none 0 :=
  ⟨by simp only [PyData.showable], by simp only [PyData.leavesShort], by simp only [PyData.hasDict], by simp only [PyData.depth]; omega, by simp only [PyData.bulk]; omega, by simp only [PyData.canLay0]⟩
/-- nice and shallow -/
structure NiceS (d : PyData) (n : Nat) : Prop where
  ok : NiceD d n
  dp : d.depth ≤ 4
theorem niceS_none : NiceS .none 200 := ⟨nice_none.mono (by decide), by simp only [PyData.depth]; omega⟩
theorem niceS_names {zs : List Str} (h : ∀ z ∈ zs, nameT z = true) (l : zs.length ≤ 12) : NiceS (.list (zs.map .str)) 200 := by
  refine ⟨(nice_names h).list.mono (by omega), ?_⟩
  simp only [PyData.depth]
  have := dep_map (f := PyData.str) (n := 0) (l := zs) fun _ _ => by simp only [PyData.depth]; omega
  omega
theorem niceS_name {z : Str} (h : nameT z = true) : NiceS (.str z) 200 := ⟨(nice_name h).mono (by decide), by simp only [PyData.depth]; omega⟩
theorem niceS_due {zs : List Str} (hz : ∀ z ∈ zs, nameT z = true) {o : Option (Str × Int)} (h : ∀ n, o = some n → NoteOk zs n) : NiceS (dueD o) 200 := by
  cases o with
  | none => exact niceS_none
  | some n =>
    obtain ⟨a, b⟩ := nice_note hz (h n rfl)
    exact ⟨a.mono (by decide), by show (noteD n).depth ≤ 4; omega⟩
theorem niceS_ring {o : Option (List Str)} (h : ∀ r, o = some r → (∀ z ∈ r, nameT z = true) ∧ r.length ≤ 12) : NiceS (ringD o) 200 := by
  cases o with
  | none => exact niceS_none
  | some r =>
    obtain ⟨a, b⟩ := h r rfl
    exact niceS_names a b
theorem niceS_end {o : Option Str} (h : ∀ z, o = some z → nameT z = true) : NiceS (endD o) 200 := by
  cases o with
  | none => exact niceS_none
  | some z => exact niceS_name (h z rfl)
inductive NiceL : List PyData → Prop
  | nil : NiceL []
  | cons {d : PyData} {ds : List PyData} : NiceS d 200 → NiceL ds → NiceL (d :: ds)
theorem NiceL.all : ∀ {ds : List PyData}, NiceL ds → NiceA ds (201 * ds.length)
  | _, .nil => NiceA.nil
  | _, .cons (ds := ds) a b => by
    have c := NiceA.cons a.ok a.dp (NiceL.all b)
    rw [List.length_cons]
    have e : 201 * (ds.length + 1) = 200 + 1 + 201 * ds.length := by omega
    rw [e]
    exact c
theorem NiceL.top {ds : List PyData} (h : NiceL ds) (l : ds.length ≤ 30) : NiceD (.list ds) 8000 := h.all.list.mono (by omega)
/-! ### rings and trails are of persons -/
theorem ring_names {zs : List Str} {nx : Str → Option Str} {z : Str} (nm : ∀ z ∈ zs, nameT z = true) (lz : zs.length ≤ 12) (c : Leads zs nx) (hz : z ∈ zs) : ∀ r, ringM zs nx z = some r → (∀ y ∈ r, nameT y = true) ∧ r.length ≤ 12 := fun r h => by
  have en := trail_ended c hz
  unfold ringM at h
  split at h
  · have e := Option.some.inj h
    subst e
    refine ⟨fun y hy => nm y (en.sub y ?_), ?_⟩
    · rcases List.mem_append.mp hy with hy | hy
      · exact List.mem_of_mem_drop hy
      · exact List.mem_of_mem_take hy
    · rw [List.length_append, List.length_drop, List.length_take]
      have := Nat.le_trans (nodup_le _ _ en.nd en.sub) lz
      omega
  · cases h
theorem trail_names {zs : List Str} {nx : Str → Option Str} {z : Str} (nm : ∀ z ∈ zs, nameT z = true) (lz : zs.length ≤ 12) (c : Leads zs nx) (hz : z ∈ zs) : (∀ y ∈ trailM zs nx z, nameT y = true) ∧ (trailM zs nx z).length ≤ 12 := by
  have en := trail_ended c hz
  exact ⟨fun y hy => nm y (en.sub y hy), Nat.le_trans (nodup_le _ _ en.nd en.sub) lz⟩
theorem end_names {zs : List Str} {nx : Str → Option Str} {z : Str} (nm : ∀ z ∈ zs, nameT z = true) (c : Leads zs nx) (hz : z ∈ zs) : ∀ y, endM zs nx z = some y → nameT y = true := fun y h => by
  have en := trail_ended c hz
  obtain ⟨ini, x, e1, _⟩ := en.last
  unfold endM at h
  split at h
  · have e := Option.some.inj h
    rw [lastM_eq e1] at e
    subst e
    exact nm _ (en.sub _ (by rw [e1]; exact List.mem_append.mpr (.inr List.mem_cons_self)))
  · cases h
/-! ### a note to oneself is a ring -/
theorem self_trail {zs : List Str} {nx : Str → Option Str} {z : Str} (h : nx z = some z) : trailM zs nx z = [z] := by
  unfold trailM
  rw [h, trailF_in List.mem_cons_self]
theorem self_last {zs : List Str} {nx : Str → Option Str} {z : Str} (h : nx z = some z) : lastM zs nx z = z := lastM_eq (ini := []) (self_trail h)
theorem self_ring {zs : List Str} {nx : Str → Option Str} {z : Str} (h : nx z = some z) (hz : z ∈ zs) : ringM zs nx z = some [z] := by
  obtain ⟨f, r, _, e1, e2, _⟩ := find_some (T := [z]) hz List.mem_cons_self
  have ef : f = z := List.mem_singleton.mp e2
  unfold ringM
  rw [self_last h, if_pos h, self_trail h, e1, ef]
  simp
theorem self_end {zs : List Str} {nx : Str → Option Str} {z : Str} (h : nx z = some z) : endM zs nx z = none := by
  unfold endM
  rw [self_last h, h]
  rfl
/-- x[0] if x != [] else None, x a list of notes -/
def tFirst (K : PySem.W.Frag) (i : Nat) : TE := fun σ H Q => ∃ (m : Addr) (mx : List V) (l : List (Str × Int)) (zs : List Str), σ[i]? = some (some (.ref m)) ∧ H m = some (.lst mx) ∧ DtAll K H mx (notesD l) ∧ (∀ n ∈ l, NoteOk zs n) ∧ (∀ z ∈ zs, nameT z = true) ∧
  ∀ v H', Same H H' → Dt K H' v (dueD l.head?) → Q v H'
end Rc

namespace Rc
open PySem PySem.Spec PyProof.Rows L2 RZ
/-! ### a built-in special method of an own class -/
section
variable {prog : Program} {w : World} {A : Around} {E : Value → Shared → Prop} {s : Shared} {h₀ : Heap} {L x y C f : Addr} {m : Str → Option Value} {K : PySem.W.Frag} {ox : Obj} {od : Option Obj}
theorem ifBoundB {M : Model} {name : Str} {id : String} {args : List Value} {Q : Option Value → Shared → Prop} (X : K.In s.heap) (I : PySem.W.InstAt s.heap x ox C od) (hs : PySem.W.findIn K (.ref C) name = some (some (.builtin id)))
    (S : ∀ self, bindSpecial (.builtin id) self = pure (.builtin id, [self])) (h : wpAny M A (call (.builtin id) (.ref x :: args)) (fun v => Q (some v)) E s) : wpAny M A (callSpecialIfBound? (.ref x) name args) Q E s := by
  simp only [callSpecialIfBound?, bindSpecialIfBound?]
  refine wpAny_holding (wpAny_bind (wpAny_bind (wpAny_bind (I.type.here ((PySem.W.looks_findIn X hs).here ?_)))))
  simp only [S]
  refine wpAny_bind (wpAny_askSetting (wpAny_ite ?_))
  have fin : wpAny M A (call (.builtin id) ([.ref x] ++ args) >>= fun v => pure (some v)) Q E s := wpAny_bind (wpAny_mono h (fun v s' h' => wpAny_pure h') fun _ _ h' => h')
  split
  · exact wpAny_bind (wpAny_pure (wpAny_pure fin))
  · exact wpAny_tryCatch (wpAny_bind (wpAny_pure (wpAny_pure fin)))
set_option maxHeartbeats 2000000 in
/-- a != b by an own == -/
theorem ne_own {Q : Value → Shared → Prop} (hu : A.units + 1 < cLine) (F : Fr h₀ L s.heap m) (X₀ : K.In h₀) (I : PySem.W.InstAt s.heap x ox C od) (hy : PySem.W.Looks (model prog w) s.heap (typeOf (.ref y)) (.ref C))
    (hne : PySem.W.findIn K (.ref C) "__ne__" = some (some (.builtin "object.__ne__"))) (heq : PySem.W.findIn K (.ref C) "__eq__" = some (some (.ref f))) (hf : PySem.W.isFn K (.ref f) = true) (ho : PySem.W.subIn K (.ref C) (.type "object") = some true)
    (h : wpAny (model prog w) A.in1 (call (.ref f) [.ref x, .ref y]) (fun v s' => ∃ b, v = .bool b ∧ Q (.bool (!b)) s') E s) : wpAny (model prog w) A (richCompare .NotEq (.ref x) (.ref y)) Q E s := by
  obtain ⟨hp, gg, dd, tt, os⟩ := s
  have X := X₀.keeps F.keep
  have body : wpAny (model prog w) A.in1 (Builtin.«object.__ne__» ⟨[.ref x, .ref y], []⟩) (fun fin s' => ∃ b, fin = .done (.ret (.bool (!b))) ∧ Q (.bool (!b)) s') E ⟨hp, gg, dd, tt, os⟩ := by
    unfold Builtin.«object.__ne__»
    repeat (first
      | with_reducible refine wpAny_cRoomFor hu ?_
      | (refine wpAny_bind (m := callSpecialIfBound? (.ref x) (Str.ofString "__eq__") [.ref y])
          (PySem.W.ifBound_K X I heq hf (wpAny_mono h (fun r s' hr => by
            obtain ⟨b, rfl, hq⟩ := hr
            repeat (first | exact ⟨b, rfl, hq⟩ | exact wpAny_pure ⟨b, rfl, hq⟩ | exact wpAny_truthy_bool ⟨b, rfl, hq⟩ | (refine wpAny_bind (m := truthy (.bool _)) (wpAny_truthy_bool ?_)) | wp_step)) fun _ _ e => e)))
      | wp_step)
  have one : wpAny (model prog w) A (tryCompare (.ref x) "__ne__" (.ref y)) (fun r s' => ∃ v, r = some v ∧ Q v s') E ⟨hp, gg, dd, tt, os⟩ := by
    simp only [tryCompare]
    refine wpAny_bind (ifBoundB X I hne PySem.F.cmp_object.ne.bind (wpAny_call (codeAny_call_builtin PySem.F.cmp_object.ne.plain PySem.F.cmpEntry_ne
      (PySem.W.check_slot PySem.F.cmpKind_ne PySem.F.cmpSplit_ne (I.type.andThen (PySem.W.looks_subIn X ho)) (PySem.F.cmpArgs_ne _ _) (wpAny_mono body (fun fin s' hv => ?_) fun _ _ e => e)))))
    obtain ⟨b, rfl, hq⟩ := hv
    exact wpAny_pure ⟨_, rfl, hq⟩
  unfold richCompare
  simp only [oneThing_ref]
  refine wpAny_holding (wpAny_bind (wpAny_cRoomFor (Nat.lt_of_succ_lt hu) ?_))
  rw [cmpInfo_NotEq]
  dsimp only
  refine wpAny_bind (I.type.here (wpAny_bind (hy.here ?_)))
  rw [show (Value.ref C != Value.ref C) = false from by simp]
  simp only [Bool.false_eq_true, if_false]
  refine wpAny_bind (wpAny_pure ?_)
  simp only [Bool.false_eq_true, if_false]
  refine wpAny_bind (wpAny_mono one (fun r s' z => ?_) fun _ _ e => e)
  obtain ⟨v, rfl, hq⟩ := z
  exact wpAny_pure hq
end
/-! ### == and != of books -/
structure ClsE (K : PySem.W.Frag) (C : Addr) : Prop where
  ha : PySem.W.findIn K (.ref C) "__class__" = some (some (.builtin "object.__class__"))
  hn : PySem.W.specialIn K (.builtin "object.__class__") "__get__" = some (some (.builtin "getset_descriptor.__get__"))
  htk : PySem.W.takesIn K (.builtin "object.__class__") = some true
  hm : PySem.W.mroIn K C (.type "object") = some true
  ne : PySem.W.findIn K (.ref C) "__ne__" = some (some (.builtin "object.__ne__"))
def spEqB (K : PySem.W.Frag) (C : Addr) : Sp := fun vs H Q _ => ∃ a b M N, vs = [.ref a, .ref b] ∧ BookAt K C H a M ∧ BookAt K C H b N ∧ KeyOk M ∧ KeyOk N ∧ ∀ H', Same H H' → Q (.bl (PyData.eqv (keyD M) (keyD N))) H'
section
variable {P : Program} {w : World} {K : PySem.W.Frag} {mg : Str → Option Value} {base : Heap}
abbrev sEqB : Stmt := inBook 18
theorem scEqB : FnScope ["self", "other"] ["self", "other"] (defScope sEqB) := ⟨rfl, rfl, rfl, by decide +kernel, rfl, by decide +kernel, by decide +kernel⟩
theorem ok_eqB {f fk C : Addr} {fd fdk : FuncData} (F : Fun K "__eq__" "Book.__eq__" sEqB f fd) (T : ClsF K C) (TE : ClsE K C) (B : Blt mg) (gC : mg "Book" = some (.ref C)) (KY : HasM P w K mg base C 1 "key" ["self"] (spKey K C) fk fdk) :
    FnOk P w K mg base CX0 2 f fd ["self", "other"] (spEqB K C) := by
  refine F.ok scEqB (fun vs H Q E h => ?_) (fun cdv A outer s H vs Q E hr h => ?_)
  · obtain ⟨_, _, _, _, rfl, _⟩ := h
    rfl
  · obtain ⟨a, b, M, N, rfl, ha, hb, oM, oN, q⟩ := h
    refine ⟨_, pss_one (ps_ret (pe_and (pe_callB call_isi (by rfl) B.isi (by decide +kernel) (pa_cons (pv 1) (pa_cons (pe_glob (v := .ref C) (by rfl) gC rfl) pa_nil)))
      (pe_one (pe_cmpR (op_eqD hr.units) (pe_meth0 (pv 0) T.cl KY.m KY.ok hr KY.b .nil pass0) (pe_meth0 (pv 1) T.cl KY.m KY.ok hr KY.b .nil pass0) (nomark _))))), ?_⟩
    obtain ⟨dx, tn, on, wg, ws, wd, e, _⟩ := hb.ex
    obtain ⟨dx2, tn2, on2, wg2, ws2, wd2, e2, _⟩ := ha.ex
    have kt : PySem.W.kitOne K (.ref C) (.ref C) = some true := by
      unfold PySem.W.kitOne
      rw [if_pos (by simp)]
    refine ⟨.ref b, rfl, .ref b, .ref C, .ref C, .ref C, true, rfl, .own C, .base (.ins e T.cl TE.ha TE.hn TE.htk TE.hm), kt, _, rfl, ?_⟩
    refine iteT ⟨.ref a, rfl, a, dx2, _, rfl, e2, bf_no (NoF.mk' (by decide +kernel)), a, M, rfl, ha, fun v1 H1 s1 d1 => ?_⟩
    refine ⟨.ref b, rfl, b, dx, _, rfl, s1 _ _ e, bf_no (NoF.mk' (by decide +kernel)), b, N, rfl, book_same hb s1, fun v2 H2 s2 d2 => ?_⟩
    exact ⟨keyD M, keyD N, Dt.dp _ (tup_key M) (Dt.same s2 _ d1), Dt.dp _ (tup_key N) d2, oM, oN, q _ (s1.trans s2)⟩
end
def rEqB (K : PySem.W.Frag) (C : Addr) (n : Bool) : R2 := fun x y H Q => ∃ a b M N, x = .ref a ∧ y = .ref b ∧ BookAt K C H a M ∧ BookAt K C H b N ∧ KeyOk M ∧ KeyOk N ∧ ∀ H', Same H H' → Q (.bl (if n = true then !PyData.eqv (keyD M) (keyD N) else PyData.eqv (keyD M) (keyD N))) H'
section
variable {X : Cx} {C f : Addr} {fd : FuncData}
theorem op_neB {K : PySem.W.Frag} (eK : X.K = K) (G : FnOk X.prog X.w X.K X.mg X.base CX0 2 f fd ["self", "other"] (spEqB X.K C)) (bd : Binds X.K fd ["self", "other"] []) (hm : Meth X.K C "__eq__" f) (TE : ClsE X.K C) (hr : Room 3 X.A) : OpR X (compareOp .NotEq) (rEqB K C true) := by
  subst eK
  intro pins s σ H x y v u Q I rx ry h
  obtain ⟨a, b, M, N, rfl, rfl, ha, hb, oM, oN, q⟩ := h
  cases rx
  cases ry
  obtain ⟨dx, tn, on, wg, ws, wd, e, _⟩ := ha.ex
  obtain ⟨dx2, tn2, on2, wg2, ws2, wd2, e2, _⟩ := hb.ex
  obtain ⟨m, Fm⟩ := I.fr
  obtain ⟨mA, O, _⟩ := ins_get I.hok e
  obtain ⟨od, J, _⟩ := O.look
  obtain ⟨mB, O2, _⟩ := ins_get I.hok e2
  obtain ⟨od2, J2, _⟩ := O2.look
  show wpAny (model X.prog X.w) X.A (richCompare .NotEq (.ref a) (.ref b)) (EP X pins σ Q) X.xe s
  refine ne_own (hu_of hr) Fm I.ok.mod.kin J J2.type TE.ne hm.at_ hm.fn TE.hm ?_
  have e0 := I.env0
  refine wpAny_call (codeAny_mono (G.run X.A.in1 X.stack s H ⟨[.ref a, .ref b], []⟩ [.ref a, .ref b] [.ref a, .ref b] (fun v H' => v = .bl (PyData.eqv (keyD M) (keyD N)) ∧ Q (.bl (!PyData.eqv (keyD M) (keyD N))) H') E0 hr.in1 e0.in1 (bd s [.ref a, .ref b] I.kIn rfl) (.cons rfl (.cons rfl .nil)) ⟨a, b, M, N, rfl, ha, hb, oM, oN, fun H' s' => ⟨rfl, q H' s'⟩⟩) fun r s' hq => ?_)
  match r, hq with
  | .error e, hq => exact hq.elim
  | .ok .next, hq => exact hq.elim
  | .ok .brk, hq => exact hq.elim
  | .ok .cont, hq => exact hq.elim
  | .ok (.ret u), hq =>
    obtain ⟨v, H', I', rv, ev, q'⟩ := I.after hq
    subst ev
    cases rv
    exact ⟨_, rfl, ⟨.bl _, H', I', rfl, q'⟩⟩
end
end Rc

namespace Rc
open PySem PySem.Spec PyProof.Rows L2 RZ
/-! ### the most that can be paid, cleared -/
def mostP (M : Bk) (j : Nat) (z : Str) : Int := match (duesM M).getD j none with
  | none => 0
  | some n => if cashM M j z < n.2 then cashM M j z else n.2
def amtAt (zs : List Str) (os : List (Option (Str × Int))) (y : Str) : Int := match os.getD (zs.idxOf y) none with
  | none => 0
  | some n => n.2
def leastI : List Int → Int
  | [] => 0
  | x :: r => r.foldl (fun a b => if b < a then b else a) x
theorem least_fold : ∀ (r : List Int) (x : Int), (r.foldl (fun a b => if b < a then b else a) x = x ∨ r.foldl (fun a b => if b < a then b else a) x ∈ r) ∧ r.foldl (fun a b => if b < a then b else a) x ≤ x ∧ ∀ y ∈ r, r.foldl (fun a b => if b < a then b else a) x ≤ y
  | [], x => ⟨.inl rfl, Int.le_refl _, fun y hy => by cases hy⟩
  | b :: r, x => by
    obtain ⟨h1, h2, h3⟩ := least_fold r (if b < x then b else x)
    rw [List.foldl_cons]
    refine ⟨?_, ?_, fun y hy => ?_⟩
    · rcases h1 with h1 | h1
      · rw [h1]
        by_cases c : b < x
        · rw [if_pos c]
          exact .inr List.mem_cons_self
        · rw [if_neg c]
          exact .inl rfl
      · exact .inr (List.mem_cons_of_mem _ h1)
    · refine Int.le_trans h2 ?_
      split <;> omega
    · rcases List.mem_cons.mp hy with hy | hy
      · subst hy
        refine Int.le_trans h2 ?_
        split <;> omega
      · exact h3 y hy
theorem least_mem {ns : List Int} (h : ns ≠ []) : leastI ns ∈ ns ∧ ∀ y ∈ ns, leastI ns ≤ y := by
  cases ns with
  | nil => exact absurd rfl h
  | cons x r =>
    obtain ⟨h1, h2, h3⟩ := least_fold r x
    refine ⟨?_, fun y hy => ?_⟩
    · rcases h1 with h1 | h1
      · exact List.mem_cons.mpr (.inl h1)
      · exact List.mem_cons_of_mem _ h1
    · rcases List.mem_cons.mp hy with hy | hy
      · subst hy
        exact h2
      · exact h3 y hy
theorem least_uniq {ns : List Int} {m : Int} (h1 : m ∈ ns) (h2 : ∀ y ∈ ns, m ≤ y) : m = leastI ns := by
  obtain ⟨a, b⟩ := least_mem (ns := ns) (fun e => by rw [e] at h1; cases h1)
  have := h2 _ a
  have := b _ h1
  omega
def mostC (zs : List Str) (os : List (Option (Str × Int))) (z : Str) : Int := match ringM zs (nxOf zs os) z with
  | none => 0
  | some r => leastI (r.map (amtAt zs os))
theorem mostC_none {zs : List Str} {os : List (Option (Str × Int))} {z : Str} (h : ringM zs (nxOf zs os) z = none) : mostC zs os z = 0 := by
  unfold mostC
  rw [h]
theorem mostC_some {zs : List Str} {os : List (Option (Str × Int))} {z : Str} {r : List Str} (h : ringM zs (nxOf zs os) z = some r) : mostC zs os z = leastI (r.map (amtAt zs os)) := by
  unfold mostC
  rw [h]
theorem mostP_none {M : Bk} {j : Nat} {z : Str} (h : (duesM M).getD j none = none) : mostP M j z = 0 := by
  unfold mostP
  rw [h]
theorem mostP_some {M : Bk} {j : Nat} {z : Str} {n : Str × Int} (h : (duesM M).getD j none = some n) : mostP M j z = if cashM M j z < n.2 then cashM M j z else n.2 := by
  unfold mostP
  rw [h]
end Rc

namespace Rc
open PySem PySem.Spec PyProof.Rows L2 RZ
/-- a written table of two defs -/
structure TabAt (K : PySem.W.Frag) (w : World) (mg : Str → Option Value) (nm : Str) (fp fc : Addr) : Prop where
  ex : ∃ d es n, mg nm = some (.ref d) ∧ KDict K w d es n ∧ PySem.W.nsIn K d "pay" = some (some (.ref fp)) ∧ PySem.W.nsIn K d "clear" = some (some (.ref fc))
section
variable {P : Program} {w : World} {K : PySem.W.Frag} {mg : Str → Option Value} {base : Heap}
/-! ### most_to_pay -/
abbrev sMtP : Stmt := topS 33
theorem scMtP : FnScope ["book", "who", "due"] ["book", "who"] (defScope sMtP) := ⟨rfl, rfl, rfl, by decide +kernel, rfl, by decide +kernel, by decide +kernel⟩
theorem ok_mtP {f f1 f2 C : Addr} {fd fd1 fd2 : FuncData} (F : Fun K "most_to_pay" "most_to_pay" sMtP f fd) (T : ClsF K C) (B2 : Blt2 mg) (DU : Has P w K mg base 6 "due_of" ["book", "who"] (spDue K C) f1 fd1) (CS : HasM P w K mg base C 5 "cash" ["self", "who"] (spCalc K C cashM) f2 fd2) :
    FnOk P w K mg base CX0 7 f fd ["book", "who"] (spCalc K C mostP) := by
  refine F.ok scMtP (fun vs H Q E h => ?_) (fun cdv A outer s H vs Q E hr h => ?_)
  · obtain ⟨_, _, _, _, rfl, _⟩ := h
    rfl
  · obtain ⟨b, M, z, j, rfl, hb, ok, ej, q⟩ := h
    refine ⟨_, pss_cons (ps_set (i := 2) scMtP.nd rfl (.inl rfl) (pe_call DU.ok hr (by rfl) DU.g DU.kp DU.b .nil pass0 (pa_cons (pv 0) (pa_cons (pv 1) pa_nil))))
      (pss_one (ps_ret (pe_ifExp (pt_cmpR op_isN (pv 2) pe_non (nomark _)) pe_int (pe_callB (call_min2 rfl) (by rfl) B2.min (by decide +kernel) (pa_cons (pe_ix ix_tup (pv 2) pe_int (fun _ _ => rfl)) (pa_cons (pe_meth (pv 0) T.cl CS.m CS.ok (hr.mono (by decide)) CS.b .nil pass0 (pa_cons (pv 1) pa_nil)) pa_nil)))))), ?_⟩
    refine ⟨.ref b, rfl, .str z, rfl, b, M, z, j, rfl, hb, ok, ej, fun v H1 s1 dv => ?_⟩
    have em : mostP M j z = match (duesM M).getD j none with | none => 0 | some n => if cashM M j z < n.2 then cashM M j z else n.2 := rfl
    rcases due_inv dv with ⟨eo, rfl⟩ | ⟨n, a, eo, rfl, qa⟩
    · rw [eo] at em
      refine ⟨.non, rfl, rfl, _, rfl, ?_⟩
      rw [decide_eq_true rfl]
      refine iteT ?_
      have qq := q H1 s1
      rw [em] at qq
      exact qq
    · rw [eo] at em
      refine ⟨.ref a, rfl, rfl, _, rfl, ?_⟩
      rw [decide_eq_false (fun c => by cases c)]
      obtain ⟨dx, tn, on, wg, ws, wd, e, _⟩ := (book_same hb s1).ex
      refine iteF ⟨.ref a, rfl, a, _, 1, .int n.2, rfl, rfl, qa, rfl, .ref b, rfl, b, dx, _, rfl, e, bf_no (NoF.mk' (by decide +kernel)), .str z, rfl, b, M, z, j, rfl, book_same hb s1, ok, ej, fun H2 s2 => ⟨_, _, rfl, ?_⟩⟩
      have qq := q H2 (s1.trans s2)
      rw [em] at qq
      exact qq
/-! ### pay_on -/
abbrev sPayO : Stmt := topS 38
theorem scPayO : FnScope ["book", "who", "amount", "most"] ["book", "who", "amount"] (defScope sPayO) := ⟨rfl, rfl, rfl, by decide +kernel, rfl, by decide +kernel, by decide +kernel⟩
def spPayO (K : PySem.W.Frag) (C : Addr) : Sp := fun vs H Q _ => ∃ (b : Addr) (M : Bk) (z : Str) (j : Nat) (m : Int), vs = [.ref b, .str z, .int m] ∧ BookAt K C H b M ∧ M.Ok ∧ M.names[j]? = some z ∧ 1 ≤ m ∧ m ≤ mostP M j z ∧ FallOk M [(z, m)] ∧
  ∀ b' H', Same H H' → H b' = none → BookAt K C H' b' (fallM M [(z, m)]) → Q (.ref b') H'
theorem ok_payO {f f1 f2 f3 C : Addr} {fd fd1 fd2 fd3 : FuncData} (F : Fun K "pay_on" "pay_on" sPayO f fd) (T : ClsF K C) (MP : Has P w K mg base 7 "most_to_pay" ["book", "who"] (spCalc K C mostP) f1 fd1) (CA : Has P w K mg base 3 "check_amount" ["amount"] (spCheckA K) f2 fd2)
    (LF : HasM P w K mg base C 7 "let_fall" ["self", "more"] (spLetF K C) f3 fd3) : FnOk P w K mg base CX0 8 f fd ["book", "who", "amount"] (spPayO K C) := by
  refine F.ok scPayO (fun vs H Q E h => ?_) (fun cdv A outer s H vs Q E hr h => ?_)
  · obtain ⟨_, _, _, _, _, rfl, _⟩ := h
    rfl
  · obtain ⟨b, M, z, j, m, rfl, hb, ok, ej, m1, mm, fo, q⟩ := h
    refine ⟨_, pss_cons (ps_set (i := 3) scPayO.nd rfl (.inl rfl) (pe_call MP.ok hr (by rfl) MP.g MP.kp MP.b .nil pass0 (pa_cons (pv 0) (pa_cons (pv 1) pa_nil))))
      (pss_cons (ps_expr (pe_call CA.ok (hr.mono (by decide)) (by rfl) CA.g CA.kp CA.b .nil pass0 (pa_cons (pv 2) pa_nil)))
      (pss_cons (ps_if (pt_cmpR op_gt (pv 2) (pv 3) (nomark _)) pss_never pss_nil)
      (pss_one (ps_ret (pe_meth (pv 0) T.cl LF.m LF.ok hr LF.b .nil pass0 (pa_cons (pe_disp (pps_cons (pv 1) (pv 2) pps_nil) (by rfl) (by rfl) (fun z => by cases z) (by show 1 ≤ 15; decide)) pa_nil)))))), ?_⟩
    refine ⟨.ref b, rfl, .str z, rfl, b, M, z, j, rfl, hb, ok, ej, fun H1 s1 => ⟨.int m, rfl, m, rfl, m1, fun H2 s2 => ⟨.int m, rfl, _, rfl, _, _, rfl, rfl, _, rfl, ?_⟩⟩⟩
    rw [show decide (mostP M j z < m) = false from decide_eq_false (by omega)]
    have s12 := s1.trans s2
    have hb2 := book_same hb s12
    obtain ⟨dx, tn, on, wg, ws, wd, e, _⟩ := hb2.ex
    refine iteF ⟨.ref b, rfl, b, dx, _, rfl, e, bf_no (NoF.mk' (by decide +kernel)), fun pd npd => ⟨.str z, rfl, .int m, rfl, upd_same, [(.inr z, .int m)], rfl, by show 1 ≤ 15; decide, ?_⟩⟩
    rw [upd_upd]
    have s3 := same_upd (o := .dK (mergeK [] [((Sum.inr z : Key), V.int m)])) npd
    have hpd : upd H2 pd (.dK (mergeK [] [((Sum.inr z : Key), V.int m)])) pd = some (.dK (moreK [(z, m)])) := upd_same
    generalize upd H2 pd (.dK (mergeK [] [((Sum.inr z : Key), V.int m)])) = H3 at s3 hpd
    have s13 := s12.trans s3
    exact ⟨b, pd, M, [(z, m)], rfl, book_same hb s13, ok, hpd, fo, fun b' H4 s4 nb hb4 => q b' H4 (s13.trans s4) (s13.free nb) hb4⟩
/-! ### is_step -/
abbrev sIsS : Stmt := topS 41
theorem scIsS : FnScope ["thing"] ["thing"] (defScope sIsS) := ⟨rfl, rfl, rfl, by decide +kernel, rfl, by decide +kernel, by decide +kernel⟩
def spIsS (K : PySem.W.Frag) : Sp := fun vs H Q _ => ∃ (t : Addr) (wd : Str) (x y : V), vs = [.ref t] ∧ H t = some (.tup [.str wd, x, y]) ∧ (wd = "pay" ∨ wd = "clear") ∧ ∀ H', Same H H' → Q (.bl true) H'
theorem ok_isS {f fp fc : Addr} {fd : FuncData} (F : Fun K "is_step" "is_step" sIsS f fd) (B : Blt mg) (B3 : Blt3 mg) (TB : TabAt K w mg "ACTIONS" fp fc) : FnOk P w K mg base CX0 1 f fd ["thing"] (spIsS K) := by
  obtain ⟨d, es, n, gd, KD, np, nc⟩ := TB.ex
  refine F.ok scIsS (fun vs H Q E h => ?_) (fun cdv A outer s H vs Q E hr h => ?_)
  · obtain ⟨_, _, _, _, rfl, _⟩ := h
    rfl
  · obtain ⟨t, wd, x, y, rfl, ht, hw, q⟩ := h
    refine ⟨_, pss_cons (ps_if (PW.pt (pw_or (pt_not (pt_val (pe_callB call_isi (by rfl) B.isi (by decide +kernel) (pa_cons (pv 0) (pa_cons (pe_bltn (v := .ty "tuple") (by rfl) B3.tuple (by decide +kernel) rfl) pa_nil)))))
        (pw_or1 (pt_cmpR op_ne (pe_callB call_len_seq (by rfl) B.len PySem.boot_len (pa_cons (pv 0) pa_nil)) pe_int (nomark _))))) (pss_one (ps_ret pe_bl)) pss_nil)
      (pss_one (ps_ret (pe_and (pe_callB call_isi (by rfl) B.isi (by decide +kernel) (pa_cons (pe_ix ix_tup (pv 0) pe_int (fun _ _ => rfl)) (pa_cons (pe_bltn (v := .ty "str") (by rfl) B.str (by decide +kernel) rfl) pa_nil)))
        (pe_one (pe_cmpR (op_in_kd KD) (pe_ix ix_tup (pv 0) pe_int (fun _ _ => rfl)) (pe_glob (v := .ref d) (by rfl) gd rfl) (by rfl)))))), ?_⟩
    have sq : SqT K H t [.str wd, x, y] := .inl (.inl ht)
    refine ⟨.ref t, rfl, _, .ty "tuple", _, _, true, rfl, .ty "tuple", .base (.tup ht), kit_ty (by decide +kernel), _, rfl, iteF ?_⟩
    refine ⟨.ref t, rfl, t, _, rfl, .inr sq, rfl, _, rfl, ?_⟩
    rw [decide_eq_true (show V.int (([V.str wd, x, y].length : Nat) : Int) = V.int 3 from rfl)]
    refine iteF ⟨.ref t, rfl, t, _, 0, .str wd, rfl, rfl, sq, rfl, .str wd, .ty "str", _, _, true, rfl, .ty "str", .base (.str wd), kit_ty (by decide +kernel), _, rfl, ?_⟩
    rcases hw with rfl | rfl
    · exact iteT ⟨.ref t, rfl, t, _, 0, .str "pay", rfl, rfl, sq, rfl, "pay", _, rfl, rfl, np, q H (Same.refl _)⟩
    · exact iteT ⟨.ref t, rfl, t, _, 0, .str "clear", rfl, rfl, sq, rfl, "clear", _, rfl, rfl, nc, q H (Same.refl _)⟩
/-! ### stepped, a pay -/
abbrev sStp : Stmt := topS 42
theorem scStp : FnScope ["book", "step", "word", "who", "amount", "action"] ["book", "step"] (defScope sStp) := ⟨rfl, rfl, rfl, by decide +kernel, rfl, by decide +kernel, by decide +kernel⟩
def spStP (K : PySem.W.Frag) (C : Addr) : Sp := fun vs H Q _ => ∃ (b t : Addr) (M : Bk) (z : Str) (j : Nat) (m : Int), vs = [.ref b, .ref t] ∧ H t = some (.tup [.str "pay", .str z, .int m]) ∧ BookAt K C H b M ∧ M.Ok ∧ M.names[j]? = some z ∧ 1 ≤ m ∧ m ≤ mostP M j z ∧ FallOk M [(z, m)] ∧
  ∀ b' H', Same H H' → H b' = none → BookAt K C H' b' (fallM M [(z, m)]) → Q (.ref b') H'
theorem ok_stP {f f1 fp fc C : Addr} {fd fd1 fdp : FuncData} (F : Fun K "stepped" "stepped" sStp f fd) (TB : TabAt K w mg "ACTIONS" fp fc) (IS : Has P w K mg base 1 "is_step" ["thing"] (spIsS K) f1 fd1) (PO : Has P w K mg base 8 "pay_on" ["book", "who", "amount"] (spPayO K C) fp fdp) :
    FnOk P w K mg base CX0 9 f fd ["book", "step"] (spStP K C) := by
  obtain ⟨d, es, n, gd, KD, np, nc⟩ := TB.ex
  refine F.ok scStp (fun vs H Q E h => ?_) (fun cdv A outer s H vs Q E hr h => ?_)
  · obtain ⟨_, _, _, _, _, _, rfl, _⟩ := h
    rfl
  · obtain ⟨b, t, M, z, j, m, rfl, ht, hb, ok, ej, m1, mm, fo, q⟩ := h
    refine ⟨_, pss_cons (ps_if (pt_not (pt_val (pe_call IS.ok (hr.mono (by decide)) (by rfl) IS.g IS.kp IS.b .nil pass0 (pa_cons (pv 1) pa_nil)))) pss_never pss_nil)
      (pss_cons (ps_asg (pv 1) (pg_tup rfl (pgs_cons (pg_name (i := 2) scStp.nd rfl (.inl rfl)) (pgs_cons (pg_name (i := 3) scStp.nd rfl (.inl rfl)) (pgs_cons (pg_name (i := 4) scStp.nd rfl (.inl rfl)) pgs_nil)))))
      (pss_cons (ps_set (i := 5) scStp.nd rfl (.inl rfl) (pe_ix ix_kdict (pe_glob (v := .ref d) (by rfl) gd rfl) (pv 2) (fun _ _ => rfl)))
      (pss_one (ps_ret (pe_callL (i := 5) (f := fp) PO.ok hr rfl (.inl rfl) PO.kp PO.b .nil pass0 (pa_cons (pv 0) (pa_cons (pv 3) (pa_cons (pv 4) pa_nil)))))))), ?_⟩
    refine ⟨.ref t, rfl, t, "pay", _, _, rfl, ht, .inl rfl, fun H1 s1 => ⟨_, rfl, iteF ?_⟩⟩
    refine ⟨.ref t, rfl, t, _, rfl, .inl (.inl (s1 _ _ ht)), rfl, _, _, rfl, _, _, rfl, _, _, rfl, rfl, ?_⟩
    refine ⟨.str "pay", rfl, d, _, .ref fp, rfl, rfl, ⟨es, n, _, KD.at_, KD.lit, np, rfl⟩, rfl, .ref b, rfl, .str z, rfl, .int m, rfl, b, M, z, j, m, rfl, book_same hb s1, ok, ej, m1, mm, fo, fun b' H2 s2 nb hb2 => ?_⟩
    exact q b' H2 (s1.trans s2) (s1.free nb) hb2
end
end Rc

namespace Rc
open PySem PySem.Spec PyProof.Rows L2 RZ
/-! ### bounds, for what is shown -/
structure Gb (D : Md) : Prop where
  gv : ∀ g ∈ D.given, 0 ≤ g ∧ g ≤ 100 * 10 ^ 58
  fw : ∀ (j : Nat) (l : List (Str × Int)) (f : Int), D.notes[j]? = some l → D.fallen[j]? = some f → f ≤ wholeN l
theorem wholeN_le {zs : List Str} : ∀ {l : List (Str × Int)}, (∀ n ∈ l, NoteOk zs n) → wholeN l ≤ (l.length : Int) * 10 ^ 58
  | [], _ => by simp [wholeN]
  | n :: r, h => by
    have ih := wholeN_le fun m hm => h m (List.mem_cons_of_mem _ hm)
    have h1 : n.2 ≤ 10 ^ 58 := (h n List.mem_cons_self).2.2
    rw [wholeN_cons, List.length_cons]
    have e : ((r.length + 1 : Nat) : Int) * 10 ^ 58 = (r.length : Int) * 10 ^ 58 + 10 ^ 58 := by
      rw [Int.natCast_add, Int.add_mul]
      rfl
    rw [e]
    omega
theorem sumTo_le (z : Str) : ∀ {l : List (Str × Int)} {f : Int}, (∀ n ∈ l, 1 ≤ n.2) → 0 ≤ f → 0 ≤ sumTo z (goneN l f) ∧ sumTo z (goneN l f) ≤ wholeN l
  | [], f, _, _ => ⟨Int.le_refl _, Int.le_refl _⟩
  | (t, a) :: r, f, h, f0 => by
    have h1 : 1 ≤ a := h _ List.mem_cons_self
    have hp : 0 ≤ partOf a f ∧ partOf a f ≤ f ∧ partOf a f ≤ a := by
      unfold partOf
      split <;> omega
    obtain ⟨i1, i2⟩ := sumTo_le z (l := r) (f := f - partOf a f) (fun m hm => h m (List.mem_cons_of_mem _ hm)) (by omega)
    rw [goneN_cons, sumTo_app, sumTo_one z t _ hp.1, wholeN_cons]
    have : 0 ≤ (if t = z then partOf a f else 0) ∧ (if t = z then partOf a f else 0) ≤ a := by
      split <;> omega
    exact ⟨by omega, by show _ ≤ a + wholeN r; omega⟩
theorem sums_le (z : Str) : ∀ {L : List (List (Str × Int) × Int)}, (∀ p ∈ L, (∀ n ∈ p.1, 1 ≤ n.2) ∧ 0 ≤ p.2) → 0 ≤ (L.map fun p => sumTo z (goneN p.1 p.2)).sum ∧ (L.map fun p => sumTo z (goneN p.1 p.2)).sum ≤ (L.map fun p => wholeN p.1).sum
  | [], _ => ⟨Int.le_refl _, Int.le_refl _⟩
  | p :: r, h => by
    obtain ⟨h1, h2⟩ := h p List.mem_cons_self
    obtain ⟨a, b⟩ := sumTo_le z h1 h2
    obtain ⟨i1, i2⟩ := sums_le z (L := r) fun q hq => h q (List.mem_cons_of_mem _ hq)
    simp only [List.map_cons, List.sum_cons]
    omega
theorem wholes_le {zs : List Str} : ∀ {L : List (List (Str × Int) × Int)}, (∀ p ∈ L, ∀ n ∈ p.1, NoteOk zs n) → (L.map fun p => wholeN p.1).sum ≤ (((L.map fun p => p.1.length).sum : Nat) : Int) * 10 ^ 58
  | [], _ => by simp
  | p :: r, h => by
    have h1 := wholeN_le (h p List.mem_cons_self)
    have ih := wholes_le (L := r) fun q hq => h q (List.mem_cons_of_mem _ hq)
    simp only [List.map_cons, List.sum_cons]
    rw [Int.natCast_add, Int.add_mul]
    omega
theorem Gs.fallTo {zs : List Str} {D : Md} (g : Gs zs D) (z : Str) : fallTo (bkOf zs D) z ≤ 60 * 10 ^ 58 := by
  have h1 := (sums_le z (L := D.notes.zip D.fallen) fun p hp => by
    obtain ⟨a, b⟩ := List.of_mem_zip hp
    exact ⟨fun n hn => (g.nt _ a n hn).2.1, g.fl _ b⟩).2
  have h2 := wholes_le (zs := zs) (L := D.notes.zip D.fallen) fun p hp => g.nt _ (List.of_mem_zip hp).1
  have h3 : ((D.notes.zip D.fallen).map fun p => p.1.length) = D.notes.map List.length := by
    rw [show (fun p : List (Str × Int) × Int => p.1.length) = List.length ∘ Prod.fst from rfl, ← List.map_map, List.map_fst_zip (by rw [g.ln, g.lf]; exact Nat.le_refl _)]
  rw [h3] at h2
  have h4 := g.my
  have h5 : ((D.notes.map List.length).sum : Int) * 10 ^ 58 ≤ 60 * 10 ^ 58 := Int.mul_le_mul_of_nonneg_right (by omega) (by decide)
  show ((D.notes.zip D.fallen).map fun p => sumTo z (goneN p.1 p.2)).sum ≤ _
  omega
theorem big_of {i : Int} (h0 : 0 ≤ i) (h1 : i ≤ 1000 * 10 ^ 58) : BigOk i := by
  have e : (1000 : Int) * 10 ^ 58 < 2 ^ 300 := by decide
  have e2 : ((2 ^ 300 : Nat) : Int) = 2 ^ 300 := by decide
  unfold BigOk
  omega
theorem Gb.bigs {zs : List Str} {D : Md} (b : Gb D) (g : Gs zs D) {j : Nat} {z : Str} {gv f : Int} {l : List (Str × Int)} (ej : zs[j]? = some z) (eg : D.given[j]? = some gv) (ef : D.fallen[j]? = some f) (el : D.notes[j]? = some l) :
    BigOk gv ∧ BigOk f ∧ BigOk (cashM (bkOf zs D) j z) := by
  obtain ⟨g0, g1⟩ := b.gv gv (List.mem_of_getElem? eg)
  have f0 := g.fl f (List.mem_of_getElem? ef)
  have f1 := b.fw j l f el ef
  have w1 := wholeN_le (g.nt l (List.mem_of_getElem? el))
  have ll := g.rows l (List.mem_of_getElem? el)
  have w2 : (l.length : Int) * 10 ^ 58 ≤ 60 * 10 ^ 58 := Int.mul_le_mul_of_nonneg_right (by omega) (by decide)
  have c0 := g.cs j z ej
  have c1 := g.fallTo z
  have ec : cashM (bkOf zs D) j z = gv + fallTo (bkOf zs D) z - f := by
    unfold cashM
    show D.given.getD j 0 + _ - D.fallen.getD j 0 = _
    rw [getD_of eg, getD_of ef]
  refine ⟨big_of g0 (by omega), big_of f0 (by omega), big_of c0 (by rw [ec]; omega)⟩
theorem Gd.gb {zs : List Str} {D : Md} {k : Nat} (h : Gd zs D k) : Gb D := by
  refine ⟨fun g hg => ?_, fun j l f el ef => ?_⟩
  · obtain ⟨a, b⟩ := h.gv g hg
    have k1 := h.k1
    have : (k : Int) * 10 ^ 58 ≤ 60 * 10 ^ 58 := Int.mul_le_mul_of_nonneg_right (by omega) (by decide)
    exact ⟨a, by omega⟩
  · have hf := List.mem_of_getElem? ef
    rw [h.zf] at hf
    rw [List.eq_of_mem_replicate hf]
    exact wholeN_nonneg fun n hn => (h.nt l (List.mem_of_getElem? el) n hn).2.1
theorem Gb.fell {D : Md} {j : Nat} {l : List (Str × Int)} {x : Int} (b : Gb D) (el : D.notes[j]? = some l) (hx : x ≤ wholeN l) : Gb (fellD D j x) := by
  refine ⟨b.gv, fun i l' f' el' ef' => ?_⟩
  have ef2 : (D.fallen.set j x)[i]? = some f' := ef'
  by_cases h : i = j
  · subst h
    have e : l' = l := Option.some.inj (Eq.trans (Eq.symm (show D.notes[i]? = some l' from el')) el)
    obtain ⟨hl, e2⟩ := List.getElem?_eq_some_iff.mp ef2
    rw [List.getElem_set_self] at e2
    rw [e, ← e2]
    exact hx
  · rw [List.getElem?_set_ne (fun c => h c.symm)] at ef2
    exact b.fw i l' f' el' ef2
theorem Gs.key {zs : List Str} {D : Md} (g : Gs zs D) : KeyOk (bkOf zs D) := by
  have ln : ∀ n : Str × Int, (noteD n).depth = 1 := fun n => by simp [noteD, PyData.depth, PyData.depthAll]
  have ls : ∀ l, (stackD l).depth ≤ 2 := fun l => by
    unfold stackD notesD
    simp only [PyData.depth]
    have := dep_map (f := noteD) (n := 1) (l := l) fun n _ => Nat.le_of_eq (ln n)
    omega
  have c1 : PyData.canLayAll0 (zs.map .str) = true := (nice_names g.nz.nm).cl
  have c2 : ∀ l : List Int, PyData.canLayAll0 (l.map .int) = true := fun l => lay_map fun x _ => by simp only [PyData.canLay0]
  have c3 : PyData.canLayAll0 (D.notes.map stackD) = true := lay_map fun l hl => by
    unfold stackD
    simp only [PyData.canLay0]
    exact (nice_notes g.nz.nm (g.nt l hl)).cl
  unfold KeyOk SeqAt.shaped
  have ec : (keyD (bkOf zs D)).canLay0 = true := by
    show (PyData.tuple [.tuple (zs.map .str), .tuple (D.given.map .int), .tuple (D.notes.map stackD), .tuple (D.fallen.map .int)]).canLay0 = true
    simp only [PyData.canLay0, PyData.canLayAll0, c1, c2, c3, Bool.and_self]
  have ed : (keyD (bkOf zs D)).depth ≤ 64 := by
    show (PyData.tuple [.tuple (zs.map .str), .tuple (D.given.map .int), .tuple (D.notes.map stackD), .tuple (D.fallen.map .int)]).depth ≤ 64
    simp only [PyData.depth, PyData.depthAll]
    have d1 := dep_map (f := PyData.str) (n := 0) (l := zs) fun _ _ => by simp only [PyData.depth]; omega
    have d2 := dep_map (f := PyData.int) (n := 0) (l := D.given) fun _ _ => by simp only [PyData.depth]; omega
    have d3 := dep_map (f := stackD) (n := 2) (l := D.notes) fun l _ => ls l
    have d4 := dep_map (f := PyData.int) (n := 0) (l := D.fallen) fun _ _ => by simp only [PyData.depth]; omega
    omega
  rw [ec, decide_eq_true ed]
  rfl
theorem key_eqv {M : Bk} (h : KeyOk M) : PyData.eqv (keyD M) (keyD M) = true := SeqAt.eqv_refl _ (SeqAt.canLay_of_shaped h)
theorem fold_eq (zs : List Str) : ∀ (ds : List Deed) (D : Md), ds.foldl stepM (bkOf zs D) = bkOf zs (ds.foldl (doneD zs) D)
  | [], _ => rfl
  | d :: r, D => by
    rw [List.foldl_cons, List.foldl_cons, step_eq, fold_eq zs r]
/-! ### rings hang together -/
def Chain (nx : Str → Option Str) (T : List Str) : Prop := ∀ (i : Nat) (x y : Str), T[i]? = some x → T[i + 1]? = some y → nx x = some y
theorem chain_snoc {nx : Str → Option Str} {ini : List Str} {l y : Str} (c : Chain nx (ini ++ [l])) (h : nx l = some y) : Chain nx (ini ++ [l] ++ [y]) := fun i a b h1 h2 => by
  have lb : i + 1 < (ini ++ [l] ++ [y]).length := (List.getElem?_eq_some_iff.mp h2).1
  rw [List.length_append] at lb
  have l1 : [y].length = 1 := rfl
  rw [List.getElem?_append_left (by omega)] at h1
  by_cases hi : i + 1 < (ini ++ [l]).length
  · rw [List.getElem?_append_left hi] at h2
    exact c i a b h1 h2
  · have ei : i = ini.length := by
      rw [List.length_append] at hi lb
      have l2 : [l].length = 1 := rfl
      omega
    subst ei
    rw [List.getElem?_append_right (by rw [List.length_append]; exact Nat.le_refl _)] at h2
    rw [List.getElem?_append_right (Nat.le_refl _)] at h1
    simp at h1 h2
    rw [← h1, ← h2]
    exact h
theorem trail_chain {nx : Str → Option Str} : ∀ (k : Nat) (ini : List Str) (l : Str) (d : Option Str), Chain nx (ini ++ [l]) → d = nx l → Chain nx (trailF nx k (ini ++ [l]) d)
  | 0, _, _, _, c, _ => c
  | k + 1, ini, l, none, c, _ => c
  | k + 1, ini, l, some y, c, e => by
    simp only [trailF]
    split
    · exact c
    · exact trail_chain k (ini ++ [l]) y (nx y) (chain_snoc c e.symm) rfl
theorem trailM_chain (zs : List Str) (nx : Str → Option Str) (z : Str) : Chain nx (trailM zs nx z) :=
  trail_chain zs.length [] z (nx z) (fun i x y _ h => by simp at h) rfl
/-- each person of a ring has a due note -/
theorem ring_due {zs : List Str} {nx : Str → Option Str} {z : Str} {r : List Str} (ld : Leads zs nx) (hz : z ∈ zs) (h : ringM zs nx z = some r) : ∀ y ∈ r, y ∈ zs ∧ ∃ x, nx y = some x := fun y hy => by
  have en := trail_ended ld hz
  have ch := trailM_chain zs nx z
  unfold ringM at h
  split at h
  · rename_i hl
    have e := Option.some.inj h
    subst e
    have hyT : y ∈ trailM zs nx z := by
      rcases List.mem_append.mp hy with hy | hy
      · exact List.mem_of_mem_drop hy
      · exact List.mem_of_mem_take hy
    refine ⟨en.sub y hyT, ?_⟩
    obtain ⟨i, hi, e⟩ := List.getElem_of_mem hyT
    by_cases hl' : i + 1 < (trailM zs nx z).length
    · exact ⟨_, ch i y _ (by rw [List.getElem?_eq_getElem hi, e]) (List.getElem?_eq_getElem hl')⟩
    · obtain ⟨ini, l, eT, _⟩ := en.last
      have el : y = l := by
        have h1 : (trailM zs nx z)[i]? = some y := by rw [List.getElem?_eq_getElem hi, e]
        rw [eT] at h1 hi hl'
        rw [List.length_append] at hi hl'
        have l1 : [l].length = 1 := rfl
        rw [List.getElem?_append_right (by omega)] at h1
        have : i - ini.length = 0 := by omega
        rw [this] at h1
        simpa using h1.symm
      rw [lastM_eq eT] at hl
      exact ⟨z, el ▸ hl⟩
  · cases h
end Rc

namespace Rc
open PySem PySem.Spec PyProof.Rows L2 RZ
section
variable {P : Program} {w : World} {K : PySem.W.Frag} {mg : Str → Option Value} {base : Heap}
/-! ### most_of, the word pay -/
abbrev sMoO : Stmt := topS 37
theorem scMoO : FnScope ["book", "who", "word", "measure"] ["book", "who", "word"] (defScope sMoO) := ⟨rfl, rfl, rfl, by decide +kernel, rfl, by decide +kernel, by decide +kernel⟩
def spMoP (K : PySem.W.Frag) (C : Addr) : Sp := fun vs H Q _ => ∃ (b : Addr) (M : Bk) (z : Str) (j : Nat), vs = [.ref b, .str z, .str "pay"] ∧ BookAt K C H b M ∧ M.Ok ∧ M.names[j]? = some z ∧ ∀ H', Same H H' → Q (.int (mostP M j z)) H'
theorem ok_moP {f fp fc C : Addr} {fd fdp : FuncData} (F : Fun K "most_of" "most_of" sMoO f fd) (TB : TabAt K w mg "MOSTS" fp fc) (MP : Has P w K mg base 7 "most_to_pay" ["book", "who"] (spCalc K C mostP) fp fdp) :
    FnOk P w K mg base CX0 8 f fd ["book", "who", "word"] (spMoP K C) := by
  obtain ⟨d, es, n, gd, KD, np, nc⟩ := TB.ex
  refine F.ok scMoO (fun vs H Q E h => ?_) (fun cdv A outer s H vs Q E hr h => ?_)
  · obtain ⟨_, _, _, _, rfl, _⟩ := h
    rfl
  · obtain ⟨b, M, z, j, rfl, hb, ok, ej, q⟩ := h
    refine ⟨_, pss_cons (ps_set (i := 3) scMoO.nd rfl (.inl rfl) (pe_ix ix_kdict (pe_glob (v := .ref d) (by rfl) gd rfl) (pv 2) (fun _ _ => rfl)))
      (pss_one (ps_ret (pe_callL (i := 3) (f := fp) MP.ok hr rfl (.inl rfl) MP.kp MP.b .nil pass0 (pa_cons (pv 0) (pa_cons (pv 1) pa_nil))))), ?_⟩
    refine ⟨.str "pay", rfl, d, _, .ref fp, rfl, rfl, ⟨es, n, _, KD.at_, KD.lit, np, rfl⟩, rfl, .ref b, rfl, .str z, rfl, b, M, z, j, rfl, hb, ok, ej, q⟩
end
end Rc

namespace Rc
open PySem PySem.Spec PyProof.Rows L2 RZ
section
variable {P : Program} {w : World} {K : PySem.W.Frag} {mg : Str → Option Value} {base : Heap}
abbrev sLDs : Stmt := topS 58
theorem scLDs : FnScope ["_law_pot_here", "_law_names_here", "_law_many", "_law_size", "_law_found", "_law_k"] ["_law_pot_here", "_law_names_here", "_law_many", "_law_size"] (defScope sLDs) := ⟨rfl, rfl, rfl, by decide +kernel, rfl, by decide +kernel, by decide +kernel⟩
def spLDs (K : PySem.W.Frag) : Sp := fun vs H Q _ => ∃ (p nl : Addr) (zs : List Str) (m : Nat) (sz : Int), vs = [.ref p, .ref nl, .int (m : Nat), .int sz] ∧ (sz = 0 ∨ sz = 1) ∧ Pot H p ∧ nl ≠ p ∧ H nl = some (.lst (List.map V.str zs)) ∧ 1 ≤ zs.length ∧ zs.length ≤ 1000 ∧ m ≤ 60 ∧
  ∀ r xs ds H', H r = none → r ≠ p → H' r = some (.lst xs) → DtAll K H' xs (deedsD ds) → ds.length = m → (∀ d ∈ ds, d.Ok zs) → Pot H' p → But p H H' → Q (.ref r) H'
theorem ok_lds {f fT fA fM : Addr} {fd fdT fdA fdM : FuncData} (F : Fun K "_law_deeds" "_law_deeds" sLDs f fd) (B2 : Blt2 mg) (T : HasTake P w K mg base fT fdT) (A : HasAmong P w K mg base fA fdA)
    (AM : Has P w K mg base 2 "_law_amount" ["_law_pot_here", "_law_size"] spLAm fM fdM) : FnOk P w K mg base CX0 3 f fd ["_law_pot_here", "_law_names_here", "_law_many", "_law_size"] (spLDs K) := by
  refine F.ok scLDs (fun vs H Q E h => ?_) (fun cdv Ar outer s H vs Q E hr h => ?_)
  · obtain ⟨_, _, _, _, _, rfl, _⟩ := h
    rfl
  · obtain ⟨p, nl, zs, m, sz, rfl, hsz, hp, np, hn, z0, z1, hm, q⟩ := h
    have hr1 := hr.mono (show 1 ≤ 2 by decide)
    refine ⟨_, pss_cons (ps_set (i := 4) scLDs.nd rfl (.inl rfl) (pe_lst pa_nil))
      (pss_cons (ps_for PassesOwn.never rfl (pi_range1 (by rfl) B2.range (pa_cons (pv 2) pa_nil)) (pg_name (i := 5) scLDs.nd rfl (.inl rfl))
        (pss_one (ps_if (pt_cmpR op_eq (pe_call T.ok hr1 (by rfl) T.g T.kp T.b .nil pass0 (pa_cons (pv 0) (pa_cons pe_int pa_nil))) pe_int (nomark _))
          (pss_one (ps_expr (pe_bm PySem.F.plainAttrs_list PySem.F.slot_list_append PySem.F.type_list_append mt_append (pv 4) (pa_cons (pe_tup (pa_cons pe_str (pa_cons (pe_call A.ok hr (by rfl) A.g A.kp A.b .nil pass0 (pa_cons (pv 0) (pa_cons (pv 1) pa_nil)))
            (pa_cons (pe_call AM.ok hr (by rfl) AM.g AM.kp AM.b .nil pass0 (pa_cons (pv 0) (pa_cons (pv 3) pa_nil))) pa_nil)))) pa_nil))))
          (pss_one (ps_expr (pe_bm PySem.F.plainAttrs_list PySem.F.slot_list_append PySem.F.type_list_append mt_append (pv 4) (pa_cons (pe_tup (pa_cons pe_str (pa_cons (pe_call A.ok hr (by rfl) A.g A.kp A.b .nil pass0 (pa_cons (pv 0) (pa_cons (pv 1) pa_nil)))
            (pa_cons (pe_call A.ok hr (by rfl) A.g A.kp A.b .nil pass0 (pa_cons (pv 0) (pa_cons (pv 1) pa_nil))) (pa_cons (pe_call AM.ok hr (by rfl) AM.g AM.kp AM.b .nil pass0 (pa_cons (pv 0) (pa_cons (pv 3) pa_nil))) pa_nil))))) pa_nil)))))))
      (pss_one (ps_ret (pv 4)))), ?_⟩
    refine ⟨Nat.zero_le _, fun r nr => ?_⟩
    have rp : r ≠ p := by
      obtain ⟨x, y, e, _⟩ := hp
      exact (ne_of_none e nr).symm
    have rn : nl ≠ r := ne_of_none hn nr
    refine ⟨_, rfl, _, rfl, by omega, by omega, ?_⟩
    refine for_it walk_range (fun i σ H' => ∃ xs ds y5, σ = [some (.ref p), some (.ref nl), some (.int (m : Nat)), some (.int sz), some (.ref r), y5] ∧ H' r = some (.lst xs) ∧ DtAll K H' xs (deedsD ds) ∧ ds.length = i ∧ (∀ d ∈ ds, d.Ok zs) ∧ Pot H' p ∧ But p H H')
      ⟨[], [], _, rfl, upd_same, .nil, rfl, fun z hz => absurd hz List.not_mem_nil, hp.new nr, But.new nr⟩ (fun _ _ _ _ _ => trivial) (fun i x σ H1' H1 hi hP hY => ?_) (fun σ H1 hP => ?_)
    · obtain ⟨rfl, rfl⟩ := hY
      obtain ⟨xs, ds, y5, rfl, hr1', dd, ld, od, hp1, hb1⟩ := hP
      have hi' : i < m := by simpa using hi
      have lx : xs.length = i := by
        rw [dd.len]
        unfold deedsD
        rw [List.length_map, ld]
      have potr : ∀ H', Pot H' p → ∀ o, Pot (upd H' r o) p := fun H' hp' o => by
        obtain ⟨x, y, e, rr⟩ := hp'
        exact ⟨x, y, by rw [upd_ne rp.symm]; exact e, rr⟩
      -- the row with one deed more
      have more : ∀ (H' : Hp) (t : Addr) (us : List V) (d : Deed), Pot H' p → But p H1 H' → H' t = none → (∀ H'', KT H' H'' → H'' t = some (.tup us) → Dt K H'' (.ref t) (deedD d)) → d.Ok zs →
          ∃ xs' ds' y5', [some (V.ref p), some (.ref nl), some (.int (m : Nat)), some (.int sz), some (.ref r), some (.int (0 + (i : Nat)))] = [some (.ref p), some (.ref nl), some (.int (m : Nat)), some (.int sz), some (.ref r), y5'] ∧
            upd (upd H' t (.tup us)) r (.lst (xs ++ [.ref t])) r = some (.lst xs') ∧ DtAll K (upd (upd H' t (.tup us)) r (.lst (xs ++ [.ref t]))) xs' (deedsD ds') ∧ ds'.length = i + 1 ∧ (∀ d ∈ ds', d.Ok zs) ∧ Pot (upd (upd H' t (.tup us)) r (.lst (xs ++ [.ref t]))) p ∧
            But p H (upd (upd H' t (.tup us)) r (.lst (xs ++ [.ref t]))) := fun H' t us d hp' hb' nt hd ok => by
        have hr' := hb' _ _ rp hr1'
        have tr : t ≠ r := (ne_of_none hr' nt).symm
        have kt : KT H' (upd (upd H' t (.tup us)) r (.lst (xs ++ [.ref t]))) := (kt_same (same_upd nt)).trans (kt_upd (o := .lst xs) (by rw [upd_ne tr.symm]; exact hr') fun z => z)
        have k1 : KT H1 H' := fun b o e t' => hb' b o (fun z => by
          obtain ⟨x, y, e', _⟩ := hp1
          rw [z, e'] at e
          cases e
          exact t') e
        refine ⟨xs ++ [.ref t], ds ++ [d], _, rfl, upd_same, ?_, by rw [List.length_append, ld]; rfl, fun d' h' => ?_, potr _ (hp'.new nt) _, fun b o n e => ?_⟩
        · unfold deedsD
          rw [List.map_append]
          exact (DtAll.keepT (k1.trans kt) _ (tup_deeds ds) dd).append (.cons (hd _ kt (by rw [upd_ne tr, upd_same])) .nil)
        · rcases List.mem_append.mp h' with h' | h'
          · exact od d' h'
          · rw [List.mem_singleton.mp h']
            exact ok
        · have br : b ≠ r := ne_of_none e nr
          have e2 := hb' _ _ n (hb1 _ _ n e)
          rw [upd_ne br, upd_ne (ne_of_none e2 nt)]
          exact e2
      have lzs : 0 < (zs.map V.str).length := by
        rw [List.length_map]
        omega
      have lzs2 : (zs.map V.str).length ≤ 1000 := by
        rw [List.length_map]
        exact z1
      have memS : ∀ {v : V}, v ∈ zs.map V.str → ∃ z ∈ zs, v = .str z := fun {v} h => by
        obtain ⟨z, hz, rfl⟩ := List.mem_map.mp h
        exact ⟨z, hz, rfl⟩
      refine ⟨.ref p, rfl, p, 3, rfl, hp1, litM _ (by decide) (by decide), fun k H2 k0 k1 hp2 hb2 => ⟨rfl, _, rfl, ite2 (fun e => ?_) (fun e => ?_)⟩⟩
      · refine ⟨.ref r, rfl, .inl ⟨rfl, _, .inl (.inl (hb2 _ _ rp hr1'))⟩, .ref p, rfl, .ref nl, rfl, p, _, rfl, hp2, .inr ⟨nl, _, rfl, np, hb2 _ _ np (hb1 _ _ np hn), lzs, lzs2, fun v H3 hv hp3 hb3 => ?_⟩⟩
        obtain ⟨z, hz, rfl⟩ := memS hv
        refine ⟨.ref p, rfl, .int sz, rfl, p, sz, rfl, hsz, hp3, fun n H4 hn4 hp4 hb4 => ⟨by show 3 ≤ sizeLine; decide, fun t nt => ?_⟩⟩
        have hb14 := hb2.trans (hb3.trans hb4)
        refine ⟨r, xs, _, rfl, rfl, by rw [upd_ne (ne_of_none (hb14 _ _ rp hr1') nt)]; exact hb14 _ _ rp hr1', small1000 (by omega), ?_⟩
        exact more H4 t _ (.give z n) hp4 hb14 nt (fun H'' _ ht => .tup (.inl (.inl ht)) (.cons (.str _) (.cons (.str _) (.cons (.int _) .nil)))) ⟨hz, hn4⟩
      · refine ⟨.ref r, rfl, .inl ⟨rfl, _, .inl (.inl (hb2 _ _ rp hr1'))⟩, .ref p, rfl, .ref nl, rfl, p, _, rfl, hp2, .inr ⟨nl, _, rfl, np, hb2 _ _ np (hb1 _ _ np hn), lzs, lzs2, fun v H3 hv hp3 hb3 => ?_⟩⟩
        obtain ⟨z, hz, rfl⟩ := memS hv
        refine ⟨.ref p, rfl, .ref nl, rfl, p, _, rfl, hp3, .inr ⟨nl, _, rfl, np, (hb2.trans hb3) _ _ np (hb1 _ _ np hn), lzs, lzs2, fun v' H5 hv' hp5 hb5 => ?_⟩⟩
        obtain ⟨y, hy, rfl⟩ := memS hv'
        refine ⟨.ref p, rfl, .int sz, rfl, p, sz, rfl, hsz, hp5, fun n H4 hn4 hp4 hb4 => ⟨by show 4 ≤ sizeLine; decide, fun t nt => ?_⟩⟩
        have hb14 := hb2.trans (hb3.trans (hb5.trans hb4))
        refine ⟨r, xs, _, rfl, rfl, by rw [upd_ne (ne_of_none (hb14 _ _ rp hr1') nt)]; exact hb14 _ _ rp hr1', small1000 (by omega), ?_⟩
        exact more H4 t _ (.put z y n) hp4 hb14 nt (fun H'' _ ht => .tup (.inl (.inl ht)) (.cons (.str _) (.cons (.str _) (.cons (.str _) (.cons (.int _) .nil))))) ⟨hz, hy, hn4⟩
    · obtain ⟨xs, ds, y5, rfl, hr1', dd, ld, od, hp1, hb1⟩ := hP
      exact ⟨.ref r, rfl, q r xs ds H1 nr rp hr1' dd (by simpa using ld) od hp1 hb1⟩
end
end Rc

namespace Rc
open PySem PySem.Spec PyProof.Rows L2 RZ
section
variable {P : Program} {w : World} {K : PySem.W.Frag} {mg : Str → Option Value} {base : Heap}
/-! ### _law_cash -/
abbrev sLCs : Stmt := topS 54
abbrev nLCs : List Str := ["_law_model_here", "_law_who", "_law_found", "_law_name_here", "_law_to", "_law_amount_here"]
theorem scLCs : FnScope nLCs ["_law_model_here", "_law_who"] (defScope sLCs) := ⟨rfl, rfl, rfl, by decide +kernel, rfl, by decide +kernel, by decide +kernel⟩
def spLCs (K : PySem.W.Frag) : Sp := fun vs H Q _ => ∃ (a : MdA) (D : Md) (zs : List Str) (z : Str) (j : Nat), vs = [.ref a.m, .str z] ∧ ModelAt K H zs a D ∧ zs[j]? = some z ∧ RowsOk D ∧ ∀ H', Same H H' → Q (.int (cashD D j z)) H'
theorem ok_lcs {f fp : Addr} {fd fdp : FuncData} (F : Fun K "_law_cash" "_law_cash" sLCs f fd) (B3 : Blt3 mg) (PT : Has P w K mg base 1 "_law_parted" ["_law_model_here", "_law_who"] (spLPt K) fp fdp) : FnOk P w K mg base CX0 2 f fd ["_law_model_here", "_law_who"] (spLCs K) := by
  refine F.ok scLCs (fun vs H Q E h => ?_) (fun cdv Ar outer s H vs Q E hr h => ?_)
  · obtain ⟨_, _, _, _, _, rfl, _⟩ := h
    rfl
  · obtain ⟨a, D, zs, z, j, rfl, hM, ej, ro, q⟩ := h
    have hu := hu_of hr
    refine ⟨_, pss_cons (ps_set (i := 2) scLCs.nd rfl (.inl rfl) (pe_op op_sub (pe_dget hu (pe_dget hu (pv 0) pe_str (fun _ _ => rfl)) (pv 1) (fun _ _ => rfl)) (pe_dget hu (pe_dget hu (pv 0) pe_str (fun _ _ => rfl)) (pv 1) (fun _ _ => rfl))))
      (pss_cons (ps_for PassesOwn.never rfl (pi_list (pe_dget hu (pv 0) pe_str (fun _ _ => rfl))) (pg_name (i := 3) scLCs.nd rfl (.inl rfl))
        (pss_one (ps_set (i := 2) scLCs.nd rfl (.inl rfl) (pe_op op_add (pv 2) (pe_callB (cr_sum rfl) (by rfl) B3.sum (by decide +kernel) (pa_cons
          (pe_lc (own := [("_law_to", 4), ("_law_amount_here", 5)]) (g := gTup K 2 (gCons (gName 4) (gCons (gName 5) gNil))) rfl scLCs.nd
            (pi_list (pe_ix ix_tup (pe_call PT.ok hr (by rfl) PT.g PT.kp PT.b .nil pass0 (pa_cons (pv 0) (pa_cons (pv 3) pa_nil))) pe_int (fun _ _ => rfl)))
            (blkOk_by (N := nLCs) (sc := defScope sLCs) (own := [("_law_to", 4), ("_law_amount_here", 5)]) (by decide +kernel))
            (fun _ _ _ _ _ => pg_tup rfl (pgs_cons (pg_name (i := 4) scLCs.nd rfl (.inl rfl) (hf := .inr rfl)) (pgs_cons (pg_name (i := 5) scLCs.nd rfl (.inl rfl) (hf := .inr rfl)) pgs_nil)))
            (fun _ _ _ _ _ => pts_one (pt_cmpR op_eq (pv 4) (pv 1) (nomark _))) (fun _ _ _ _ _ => pv 5)) pa_nil))))))
      (pss_one (ps_ret (pv 2)))), ?_⟩
    obtain ⟨gv, f', l', r, xs, eg, ef, el', er, hr0, hd0⟩ := hM.at_ ej
    refine ⟨.ref a.m, rfl, a.m, .ref a.dg, rfl, hM.g1, .str z, rfl, a.dg, .int gv, rfl, hM.gg ej eg, .ref a.m, rfl, a.m, .ref a.df, rfl, hM.g2, .str z, rfl, a.df, .int f', rfl, hM.gf ej ef, _, _, rfl, rfl, ?_⟩
    refine ⟨.ref a.m, rfl, a.m, .ref a.lo, rfl, hM.g0, a.lo, rfl, ⟨_, .inl (.inl hM.ho)⟩, ?_⟩
    refine for_it (walk_list (K := K) (a := a.lo) (xs := zs.map V.str)) (fun i σ H' => ∃ y3 y4 y5, σ = [some (.ref a.m), some (.str z), some (.int (gv - f' + (((D.notes.zip D.fallen).take i).map fun p => sumTo z (goneN p.1 p.2)).sum)), y3, y4, y5] ∧ Same H H')
      ⟨_, _, _, by simp; rfl, Same.refl _⟩ (fun i σ H' _ hP => ?_) (fun i x σ H2' H2 hi hP hY => ?_) (fun σ H' hP => ?_)
    · obtain ⟨_, _, _, _, s1⟩ := hP
      exact .inl (.inl (s1 _ _ hM.ho))
    · obtain ⟨rfl, hx⟩ := hY
      obtain ⟨y3, y4, y5, rfl, s2⟩ := hP
      rw [List.length_map] at hi
      have exx : x = .str zs[i] := by
        rw [List.getElem?_map, List.getElem?_eq_getElem hi] at hx
        exact (Option.some.inj hx).symm
      subst exx
      have hs : i < D.notes.length := by rw [hM.ln]; exact hi
      have hdr : i < D.fallen.length := by rw [hM.lf]; exact hi
      have ll := ro _ (List.getElem_mem hs)
      refine ⟨_, rfl, .ref a.m, rfl, .str zs[i], rfl, a, D, zs, _, i, _, _, rfl, model_same hM s2, List.getElem?_eq_getElem hi, List.getElem?_eq_getElem hs, List.getElem?_eq_getElem hdr, by omega, fun t g m gx mx H4 s4 ht ng nm hg hm dg dm => ?_⟩
      refine ⟨t, _, 0, .ref g, rfl, rfl, .inl (.inl ht), rfl, g, rfl, ⟨_, .inl (.inl hg)⟩, fun D' nD => ?_⟩
      generalize hG : goneN D.notes[i] D.fallen[i] = G at dg
      have lg : gx.length = G.length := by
        rw [dg.len]
        unfold notesD
        rw [List.length_map]
      have lG : G.length ≤ 60 := by
        rw [← hG]
        exact Nat.le_trans (goneN_len _ _) ll
      refine lc_it (walk_list (K := K) (a := g) (xs := gx)) (fun i' H' => Same H4 H' ∧ H' D' = some (.lst (((G.take i').filter fun n => decide (n.1 = z)).map fun n => .int n.2))) ⟨same_upd nD, upd_same⟩ (fun i' H' _ hP => hP.1.seq (.inl (.inl hg)))
        (fun i' x' H5' H5 hi' hP hY => ?_) (fun H5 hP => ?_)
      · obtain ⟨rfl, hx'⟩ := hY
        obtain ⟨hil, dn⟩ := (DtAll.same hP.1 _ dg).notes_get hx'
        obtain ⟨na, rfl, qn⟩ := note_inv dn
        refine ⟨na, _, rfl, qn, rfl, _, _, rfl, _, _, rfl, rfl, rfl, _, rfl, _, rfl, rfl, _, rfl, ?_⟩
        have tk := take_succ hil
        by_cases hz : G[i'].1 = z
        · rw [show decide (V.str G[i'].1 = V.str z) = true from decide_eq_true (by rw [hz])]
          refine iteT ⟨_, rfl, _, hP.2, ?_, fun c o ec => ?_, ?_⟩
          · rw [List.length_map]
            have := List.length_filter_le (fun n : Str × Int => decide (n.1 = z)) (G.take i')
            rw [List.length_take] at this
            exact small1000 (by omega)
          · rw [upd_ne (ne_of_none ec nD)]
            exact hP.1 c o ec
          · rw [upd_same, tk, List.filter_append, List.map_append]
            simp [hz]
        · rw [show decide (V.str G[i'].1 = V.str z) = false from decide_eq_false (fun c => hz (V.str.inj c))]
          refine iteF ⟨hP.1, ?_⟩
          rw [hP.2, tk, List.filter_append]
          simp [hz]
      · refine ⟨D', (G.filter fun n => decide (n.1 = z)).map (·.2), rfl, .inl (.inl ?_), _, _, rfl, rfl, ?_⟩
        · rw [hP.2, lg, List.take_length, List.map_map]
          rfl
        refine ⟨some (.str zs[i]), y4, y5, ?_, s2.trans (s4.trans hP.1)⟩
        have tk : (D.notes.zip D.fallen).take (i + 1) = (D.notes.zip D.fallen).take i ++ [(D.notes[i], D.fallen[i])] := by
          rw [List.take_add_one, List.getElem?_zip_eq_some (z := (D.notes[i], D.fallen[i])) |>.mpr ⟨List.getElem?_eq_getElem hs, List.getElem?_eq_getElem hdr⟩]
          rfl
        rw [tk, List.map_append, List.sum_append]
        simp only [List.map_cons, List.map_nil, List.sum_cons, List.sum_nil, Int.add_zero]
        rw [hG, ← Int.add_assoc]
        rfl
    · obtain ⟨y3, y4, y5, rfl, s2⟩ := hP
      refine ⟨_, rfl, ?_⟩
      rw [List.take_of_length_le (by rw [List.length_zip, hM.ln, hM.lf, Nat.min_self, List.length_map]; exact Nat.le_refl _)]
      have ec : cashD D j z = gv - f' + ((D.notes.zip D.fallen).map fun p => sumTo z (goneN p.1 p.2)).sum := by
        unfold cashD sumsD
        rw [getD_of eg, getD_of ef]
      rw [← ec]
      exact q _ s2
end
end Rc

namespace Rc
open PySem PySem.Spec PyProof.Rows L2 RZ
section
variable {P : Program} {w : World} {K : PySem.W.Frag} {mg : Str → Option Value} {base : Heap}
/-! ### _law_done -/
abbrev sLDn : Stmt := topS 59
theorem scLDn : FnScope ["_law_model_here", "_law_deed"] ["_law_model_here", "_law_deed"] (defScope sLDn) := ⟨rfl, rfl, rfl, by decide +kernel, rfl, by decide +kernel, by decide +kernel⟩
def spLDn (K : PySem.W.Frag) : Sp := fun vs H Q _ => ∃ (a : MdA) (D : Md) (zs : List Str) (v : V) (d : Deed), vs = [.ref a.m, v] ∧ ModelAt K H zs a D ∧ Dt K H v (deedD d) ∧ d.Ok zs ∧ zs.length ≤ 13 ∧ RowsOk D ∧ ∀ H', ButF a H H' → ModelAt K H' zs a (doneD zs D d) → Q .non H'
theorem ok_ldn {f : Addr} {fd : FuncData} (F : Fun K "_law_done" "_law_done" sLDn f fd) : FnOk P w K mg base CX0 1 f fd ["_law_model_here", "_law_deed"] (spLDn K) := by
  refine F.ok scLDn (fun vs H Q E h => ?_) (fun cdv Ar outer s H vs Q E hr h => ?_)
  · obtain ⟨_, _, _, _, _, rfl, _⟩ := h
    rfl
  · obtain ⟨a, D, zs, v, d, rfl, hM, hd, od, lz, ro, q⟩ := h
    have hu := hu_of hr
    refine ⟨_, pss_one (ps_if (pt_cmpR op_eq (pe_ix ix_tupD (pv 1) pe_int (fun _ _ => rfl)) pe_str (nomark _))
      (pss_one (ps_dput hu (pe_dget hu (pv 0) pe_str (fun _ _ => rfl)) (pe_ix ix_tupD (pv 1) pe_int (fun _ _ => rfl))
        (pe_op op_add (pe_dget hu (pe_dget hu (pv 0) pe_str (fun _ _ => rfl)) (pe_ix ix_tupD (pv 1) pe_int (fun _ _ => rfl)) (fun _ _ => rfl)) (pe_ix ix_tupD (pv 1) pe_int (fun _ _ => rfl))) rfl))
      (pss_one (ps_expr (pe_bm PySem.F.plainAttrs_list PySem.F.slot_list_append PySem.F.type_list_append mt_append (pe_dget hu (pe_dget hu (pv 0) pe_str (fun _ _ => rfl)) (pe_ix ix_tupD (pv 1) pe_int (fun _ _ => rfl)) (fun _ _ => rfl))
        (pa_cons (pe_tup (pa_cons (pe_ix ix_tupD (pv 1) pe_int (fun _ _ => rfl)) (pa_cons (pe_ix ix_tupD (pv 1) pe_int (fun _ _ => rfl)) pa_nil))) pa_nil))))), ?_⟩
    cases d with
    | give z n =>
      have ej := idx_get od.1
      obtain ⟨gv, f', l', r, xs, eg, ef, el, er, hr0, hd0⟩ := hM.at_ ej
      refine ⟨v, rfl, _, 0, .str "give", hd, rfl, rfl, fun v0 d0 => ?_⟩
      cases d0
      refine ⟨rfl, _, rfl, ?_⟩
      rw [decide_eq_true rfl]
      refine iteT ⟨.ref a.m, rfl, a.m, .ref a.dg, rfl, hM.g1, v, rfl, _, 1, .str z, hd, rfl, rfl, fun v1 d1 => ?_⟩
      cases d1
      refine ⟨a.dg, .int gv, rfl, hM.gg ej eg, v, rfl, _, 2, .int n, hd, rfl, rfl, fun v2 d2 => ?_⟩
      cases d2
      refine ⟨_, _, rfl, rfl, .ref a.m, rfl, a.m, .ref a.dg, rfl, hM.g1, v, rfl, _, 1, .str z, hd, rfl, rfl, fun v3 d3 => ?_⟩
      cases d3
      have hj : zs.idxOf z < D.given.length := by
        rw [hM.lg]
        exact List.idxOf_lt_length_of_mem od.1
      refine ⟨a.dg, _, rfl, DPut.k (k := Sum.inr z) hM.hg (by rw [dct_len (by rw [List.length_map, hM.lg])]; exact small1000 (by omega)), ?_⟩
      rw [dct_put hM.zn ej (by rw [List.length_map]; exact hj), map_set V.int]
      have bf' : ButF a H (upd H a.dg (.dK (dct zs ((D.given.set (zs.idxOf z) (gv + n)).map V.int)))) := fun b o nf e => by
        rw [upd_ne (fun z => nf (.inl z))]
        exact e
      have rne : ∀ r ∈ a.rs, r ≠ a.dg := fun r hr z => by
        obtain ⟨i, hi, e'⟩ := List.getElem_of_mem hr
        have hn : i < D.notes.length := by
          rw [hM.ln, ← hM.lr]
          exact hi
        obtain ⟨xs, e1, _⟩ := hM.rows i r _ (by rw [List.getElem?_eq_getElem hi, e']) (List.getElem?_eq_getElem hn)
        rw [z, hM.hg] at e1
        cases e1
      have lone : a.lo ≠ a.dg := fun z => by
        have := hM.ho
        rw [z, hM.hg] at this
        cases this
      refine q _ bf' ⟨?_, ?_, ?_, ?_, ?_, fun i r l e1 e2 => ?_, hM.nd, hM.olo, hM.ogf, hM.ogn, hM.ogm, hM.omn, hM.zn, ?_, hM.lf, hM.ln, hM.lr⟩
      · rw [upd_ne hM.ogm.symm]
        exact hM.hm
      · rw [upd_ne lone]
        exact hM.ho
      · rw [upd_same]
        show _ = some (HO.dK (dct zs ((D.given.set (zs.idxOf z) (D.given.getD (zs.idxOf z) 0 + n)).map V.int)))
        rw [getD_of eg]
      · rw [upd_ne hM.ogf.symm]
        exact hM.hf
      · rw [upd_ne hM.ogn.symm]
        exact hM.hn
      · obtain ⟨xs, e3, d3⟩ := hM.rows i r l e1 e2
        refine ⟨xs, ?_, DtAll.keepT (bf'.kt hM) _ (tup_notes l) d3⟩
        rw [upd_ne (rne r (List.mem_of_getElem? e1))]
        exact e3
      · show (D.given.set _ _).length = _
        rw [List.length_set]
        exact hM.lg
    | put z y n =>
      have ej := idx_get od.1
      obtain ⟨gv, f', l', r, xs, eg, ef, el, er, hr0, hd0⟩ := hM.at_ ej
      refine ⟨v, rfl, _, 0, .str "put", hd, rfl, rfl, fun v0 d0 => ?_⟩
      cases d0
      refine ⟨rfl, _, rfl, ?_⟩
      rw [decide_eq_false give_ne_put]
      refine iteF ⟨.ref a.m, rfl, a.m, .ref a.dn, rfl, hM.g3, v, rfl, _, 1, .str z, hd, rfl, rfl, fun v1 d1 => ?_⟩
      cases d1
      refine ⟨a.dn, .ref r, rfl, hM.gn ej er, .inl ⟨rfl, _, .inl (.inl hr0)⟩, v, rfl, _, 2, .str y, hd, rfl, rfl, fun v2 d2 => ?_⟩
      cases d2
      refine ⟨v, rfl, _, 3, .int n, hd, rfl, rfl, fun v3 d3 => ?_⟩
      cases d3
      refine ⟨by show 2 ≤ sizeLine; decide, fun t nt => ?_⟩
      have tr : t ≠ r := (ne_of_none hr0 nt).symm
      have lx : xs.length ≤ 60 := by
        rw [hd0.len]
        unfold notesD
        rw [List.length_map]
        exact ro _ (List.mem_of_getElem? el)
      refine ⟨r, xs, _, rfl, rfl, by rw [upd_ne tr.symm]; exact hr0, small1000 (by omega), ?_⟩
      have rm : r ∈ a.rs := List.mem_of_getElem? er
      have bf' : ButF a H (upd (upd H t (.tup [V.str y, V.int n])) r (.lst (xs ++ [V.ref t]))) := fun b o nf e => by
        have nb : b ≠ r := fun z => nf (.inr (by rw [z]; exact rm))
        rw [upd_ne nb, upd_ne (ne_of_none e nt)]
        exact e
      have keepD : ∀ {b : Addr} {o : HO}, b ≠ r → H b = some o → upd (upd H t (.tup [V.str y, V.int n])) r (.lst (xs ++ [V.ref t])) b = some o := fun {b o} n e => by
        rw [upd_ne n, upd_ne (ne_of_none e nt)]
        exact e
      have dne : ∀ {b : Addr} {kvs : List (Key × V)}, H b = some (.dK kvs) → b ≠ r := fun {b kvs} e z => by
        rw [z, hr0] at e
        cases e
      refine q _ bf' ⟨keepD (dne hM.hm) hM.hm, keepD (fun z => hM.olo (by rw [z]; exact rm)) hM.ho, keepD (dne hM.hg) hM.hg, keepD (dne hM.hf) hM.hf, keepD (dne hM.hn) hM.hn, fun i r' l e1 e2 => ?_, hM.nd, hM.olo, hM.ogf, hM.ogn, hM.ogm, hM.omn, hM.zn, hM.lg, hM.lf, ?_, hM.lr⟩
      · have hkt := bf'.kt hM
        by_cases hi : i = zs.idxOf z
        · have er' : r' = r := by
            rw [hi, er] at e1
            exact (Option.some.inj e1).symm
          subst er'
          have e2' : (D.notes.set (zs.idxOf z) (D.notes.getD (zs.idxOf z) [] ++ [(y, n)]))[i]? = some l := e2
          rw [hi, List.getElem?_set_self (by rw [hM.ln]; exact List.idxOf_lt_length_of_mem od.1), getD_of el] at e2'
          cases e2'
          refine ⟨_, upd_same, ?_⟩
          unfold notesD
          rw [List.map_append]
          refine (DtAll.keepT hkt _ (tup_notes l') hd0).append (.cons (.tup (.inl (.inl ?_)) (.cons (.str _) (.cons (.int _) .nil))) .nil)
          rw [upd_ne tr, upd_same]
        · have e2' : (D.notes.set (zs.idxOf z) (D.notes.getD (zs.idxOf z) [] ++ [(y, n)]))[i]? = some l := e2
          rw [List.getElem?_set_ne (fun c => hi c.symm)] at e2'
          obtain ⟨xs', e3, d3⟩ := hM.rows i r' l e1 e2'
          have nr' : r' ≠ r := fun c => by
            obtain ⟨h1, k1⟩ := List.getElem?_eq_some_iff.mp e1
            obtain ⟨h2, k2⟩ := List.getElem?_eq_some_iff.mp er
            exact hi ((List.getElem_inj hM.nd).mp (k1.trans (c.trans k2.symm)))
          exact ⟨xs', keepD nr' e3, DtAll.keepT hkt _ (tup_notes l) d3⟩
      · show (D.notes.set _ _).length = _
        rw [List.length_set]
        exact hM.ln
end
end Rc

namespace Rc
open PySem PySem.Spec PyProof.Rows L2 RZ
section
variable {P : Program} {w : World} {K : PySem.W.Frag} {mg : Str → Option Value} {base : Heap}
/-! ### _law_booked -/
abbrev sLBk : Stmt := topS 60
theorem scLBk : FnScope ["_law_book", "_law_deeds_here", "_law_deed"] ["_law_book", "_law_deeds_here"] (defScope sLBk) := ⟨rfl, rfl, rfl, by decide +kernel, rfl, by decide +kernel, by decide +kernel⟩
def spLBk (K : PySem.W.Frag) (C : Addr) : Sp := fun vs H Q _ => ∃ (b : Addr) (M : Bk) (dl : Addr) (xs : List V) (ds : List Deed), vs = [.ref b, .ref dl] ∧ BookAt K C H b M ∧ M.Ok ∧ H dl = some (.lst xs) ∧ DtAll K H xs (deedsD ds) ∧ (∀ d ∈ ds, d.Ok M.names) ∧ manyM M + ds.length ≤ 60 ∧
  ∀ b' H', Same H H' → BookAt K C H' b' (ds.foldl stepM M) → Q (.ref b') H'
theorem ok_lbk {f f1 f2 C : Addr} {fd fd1 fd2 : FuncData} (F : Fun K "_law_booked" "_law_booked" sLBk f fd) (T : ClsF K C) (GV : HasM P w K mg base C 6 "give" ["self", "who", "amount"] (spGive K C) f1 fd1) (PU : HasM P w K mg base C 6 "put" ["self", "who", "to", "amount"] (spPut K C) f2 fd2) :
    FnOk P w K mg base CX0 7 f fd ["_law_book", "_law_deeds_here"] (spLBk K C) := by
  refine F.ok scLBk (fun vs H Q E h => ?_) (fun cdv Ar outer s H vs Q E hr h => ?_)
  · obtain ⟨_, _, _, _, _, rfl, _⟩ := h
    rfl
  · obtain ⟨b, M, dl, xs, ds, rfl, hb, ok, hl, hd, od, hm, q⟩ := h
    refine ⟨_, pss_cons (ps_for PassesOwn.never rfl (pi_list (pv 1)) (pg_name (i := 2) scLBk.nd rfl (.inl rfl))
      (pss_one (ps_set (i := 0) scLBk.nd rfl (.inl rfl) (pe_ifExp (pt_cmpR op_eq (pe_ix ix_tupD (pv 2) pe_int (fun _ _ => rfl)) pe_str (nomark _))
        (pe_meth (pv 0) T.cl GV.m GV.ok hr GV.b .nil pass0 (pa_cons (pe_ix ix_tupD (pv 2) pe_int (fun _ _ => rfl)) (pa_cons (pe_ix ix_tupD (pv 2) pe_int (fun _ _ => rfl)) pa_nil)))
        (pe_meth (pv 0) T.cl PU.m PU.ok hr PU.b .nil pass0 (pa_cons (pe_ix ix_tupD (pv 2) pe_int (fun _ _ => rfl)) (pa_cons (pe_ix ix_tupD (pv 2) pe_int (fun _ _ => rfl)) (pa_cons (pe_ix ix_tupD (pv 2) pe_int (fun _ _ => rfl)) pa_nil))))))))
      (pss_one (ps_ret (pv 0))), ?_⟩
    have lx : xs.length = ds.length := by
      rw [hd.len]
      unfold deedsD
      rw [List.length_map]
    refine ⟨.ref dl, rfl, dl, rfl, ⟨_, .inl (.inl hl)⟩, ?_⟩
    refine for_it (walk_list (K := K) (a := dl) (xs := xs)) (fun i σ H' => ∃ b' y2, σ = [some (.ref b'), some (.ref dl), y2] ∧ Same H H' ∧ BookAt K C H' b' ((ds.take i).foldl stepM M)) ⟨b, _, rfl, Same.refl _, hb⟩ (fun i σ H' _ hP => ?_) (fun i x σ H1' H1 hi hP hY => ?_) (fun σ H' hP => ?_)
    · obtain ⟨_, _, _, s1, _⟩ := hP
      exact .inl (.inl (s1 _ _ hl))
    · obtain ⟨rfl, hx⟩ := hY
      obtain ⟨b', y2, rfl, s1, hb1⟩ := hP
      have hid : i < ds.length := by omega
      obtain ⟨ok1, mm1, nm1⟩ := dfold_ok (ds.take i) ok (fun d hd => od d (List.mem_of_mem_take hd)) (by rw [List.length_take]; omega)
      have oki : ds[i].Ok ((ds.take i).foldl stepM M).names := by
        rw [nm1]
        exact od _ (List.getElem_mem hid)
      obtain ⟨v', g1, d1⟩ := (DtAll.same s1 _ hd).get (n := i) (d := deedD ds[i]) (map_get (List.getElem?_eq_getElem hid))
      rw [hx] at g1
      cases g1
      have tk := take_succ hid
      have ef : (ds.take (i + 1)).foldl stepM M = stepM ((ds.take i).foldl stepM M) ds[i] := by
        rw [tk, List.foldl_append]
        rfl
      rw [List.length_take] at mm1
      obtain ⟨dx, tn, on, wg, ws, wd, e, h1, hn, h2, h3, h4⟩ := hb1.ex
      cases hdd : ds[i] with
      | give z n =>
        rw [hdd] at d1 oki ef
        refine ⟨x, rfl, _, 0, .str "give", d1, rfl, rfl, fun v0 d0 => ?_⟩
        cases d0
        refine ⟨rfl, _, rfl, ?_⟩
        rw [decide_eq_true rfl]
        refine iteT ⟨.ref b', rfl, b', dx, _, rfl, e, bf_no (NoF.mk' (by decide +kernel)), x, rfl, _, 1, .str z, d1, rfl, rfl, fun v1 d1' => ?_⟩
        cases d1'
        refine ⟨x, rfl, _, 2, .int n, d1, rfl, rfl, fun v2 d2 => ?_⟩
        cases d2
        refine ⟨b', _, z, _, n, rfl, hb1, ok1, idx_get oki.1, oki.2.1, fun b2 H2 s2 nb hb2 => ?_⟩
        refine ⟨b2, _, rfl, s1.trans s2, ?_⟩
        rw [ef]
        exact hb2
      | put z y n =>
        rw [hdd] at d1 oki ef
        refine ⟨x, rfl, _, 0, .str "put", d1, rfl, rfl, fun v0 d0 => ?_⟩
        cases d0
        refine ⟨rfl, _, rfl, ?_⟩
        rw [decide_eq_false give_ne_put]
        refine iteF ⟨.ref b', rfl, b', dx, _, rfl, e, bf_no (NoF.mk' (by decide +kernel)), x, rfl, _, 1, .str z, d1, rfl, rfl, fun v1 d1' => ?_⟩
        cases d1'
        refine ⟨x, rfl, _, 2, .str y, d1, rfl, rfl, fun v2 d2 => ?_⟩
        cases d2
        refine ⟨x, rfl, _, 3, .int n, d1, rfl, rfl, fun v3 d3 => ?_⟩
        cases d3
        refine ⟨b', _, z, y, _, _, n, rfl, hb1, ok1, idx_get oki.1, idx_get oki.2.1, oki.2.2.1, by omega, fun b2 H2 s2 nb hb2 => ?_⟩
        refine ⟨b2, _, rfl, s1.trans s2, ?_⟩
        rw [ef]
        exact hb2
    · obtain ⟨b', y2, rfl, s1, hb1⟩ := hP
      rw [lx, List.take_length] at hb1
      exact ⟨.ref b', rfl, q b' H' s1 hb1⟩
end
end Rc

namespace Rc
open PySem PySem.Spec PyProof.Rows L2 RZ
section
variable {P : Program} {w : World} {K : PySem.W.Frag} {mg : Str → Option Value} {base : Heap}
/-! ### _law_alike, whatever has fallen -/
abbrev sLAl : Stmt := topS 61
abbrev nLAl : List Str := ["_law_model_here", "_law_book", "_law_who", "_law_told", "_law_wanted"]
theorem scLAl : FnScope nLAl ["_law_model_here", "_law_book"] (defScope sLAl) := ⟨rfl, rfl, rfl, by decide +kernel, rfl, by decide +kernel, by decide +kernel⟩
def spLAl (K : PySem.W.Frag) (C : Addr) : Sp := fun vs H Q _ => ∃ (a : MdA) (D : Md) (zs : List Str) (b : Addr), vs = [.ref a.m, .ref b] ∧ ModelAt K H zs a D ∧ BookAt K C H b (bkOf zs D) ∧ Gs zs D ∧ Gb D ∧ ∀ H', Same H H' → Q (.bl true) H'
def toldD (g f c : Int) (l p : List (Str × Int)) : PyData := .list [.int g, .int f, .int c, .list (notesD l), .list (notesD p)]
theorem notes_depth {zs : List Str} (hz : ∀ z ∈ zs, nameT z = true) : ∀ {l : List (Str × Int)}, (∀ n ∈ l, NoteOk zs n) → PyData.depthAll (notesD l) ≤ 1
  | [], _ => Nat.zero_le _
  | a :: r, h => by
    show PyData.depthAll (noteD a :: notesD r) ≤ 1
    simp only [PyData.depthAll]
    have h1 := (nice_note hz (h a List.mem_cons_self)).2
    have h2 := notes_depth hz fun n hn => h n (List.mem_cons_of_mem _ hn)
    omega
theorem nice_told {zs : List Str} (hz : ∀ z ∈ zs, nameT z = true) {g f c : Int} {l p : List (Str × Int)} (hg : BigOk g) (hf : BigOk f) (hc : BigOk c) (hl : ∀ n ∈ l, NoteOk zs n) (ll : l.length ≤ 60) (hp : ∀ n ∈ p, NoteOk zs n) (lp : p.length ≤ 60) : NiceD (toldD g f c l p) 8000 := by
  have nl := (nice_notes hz hl).list
  have np := (nice_notes hz hp).list
  have dl : (PyData.list (notesD l)).depth ≤ 4 := by
    simp only [PyData.depth]
    have := notes_depth hz hl
    omega
  have dp : (PyData.list (notesD p)).depth ≤ 4 := by
    simp only [PyData.depth]
    have := notes_depth hz hp
    omega
  have z4 : ∀ i : Int, (PyData.int i).depth ≤ 4 := fun i => by simp only [PyData.depth]; omega
  have a := (NiceA.cons (nice_int hg) (z4 _) (NiceA.cons (nice_int hf) (z4 _) (NiceA.cons (nice_int hc) (z4 _) (NiceA.cons nl dl (NiceA.cons np dp NiceA.nil))))).list
  exact ⟨a.sh, a.lv, a.nd, a.dp, Nat.le_trans a.bk (by omega), a.cl⟩
theorem ok_lal {f f1 f2 f3 f4 f5 f6 f7 f8 C : Addr} {fd fd1 fd2 fd3 fd4 fd5 fd6 fd7 fd8 : FuncData} (F : Fun K "_law_alike" "_law_alike" sLAl f fd) (T : ClsF K C) (B2 : Blt2 mg)
    (PE1 : HasM P w K mg base C 1 "persons" ["self"] (spPersons K C) f1 fd1) (GV : HasM P w K mg base C 4 "given" ["self", "who"] (spNum K C Bk.gifts) f2 fd2) (FL : HasM P w K mg base C 4 "fallen" ["self", "who"] (spNum K C Bk.drops) f3 fd3)
    (CS : HasM P w K mg base C 5 "cash" ["self", "who"] (spCalc K C cashM) f4 fd4) (NT : HasM P w K mg base C 4 "notes" ["self", "who"] (spRow K C fun l _ => l) f5 fd5) (PL : HasM P w K mg base C 5 "pile" ["self", "who"] (spRow K C leftN) f6 fd6)
    (LC : Has P w K mg base 2 "_law_cash" ["_law_model_here", "_law_who"] (spLCs K) f7 fd7) (LL : Has P w K mg base 2 "_law_left" ["_law_model_here", "_law_who"] (spLLf K) f8 fd8) :
    FnG P w K mg base CX0 6 f fd ["_law_model_here", "_law_book"] (spLAl K C) := by
  refine okG0 F scLAl (fun vs H Q E h => ?_) (fun cdv Ar outer s H vs Q E hr hgd h => ?_)
  · obtain ⟨_, _, _, _, rfl, _⟩ := h
    rfl
  · obtain ⟨a, D, zs, b, rfl, hM, hb, g, gb, q⟩ := h
    have nz := g.nz
    have hu := hu_of hr
    have hr1 := hr.mono (show 1 ≤ 5 by decide)
    have hr2 := hr.mono (show 2 ≤ 5 by decide)
    have hr4 := hr.mono (show 4 ≤ 5 by decide)
    refine ⟨_, pss_cons (ps_if (pt_cmpR (op_neD hr.units) (pe_meth0 (pv 1) T.cl PE1.m PE1.ok hr1 PE1.b .nil pass0) (pe_dget hu (pv 0) pe_str (fun _ _ => rfl)) (nomark _)) (pss_one (ps_ret pe_bl)) pss_nil)
      (pss_cons (ps_for PassesOwn.never rfl (pi_list (pe_dget hu (pv 0) pe_str (fun _ _ => rfl))) (pg_name (i := 2) scLAl.nd rfl (.inl rfl))
        (pss_cons (ps_set (i := 3) scLAl.nd rfl (.inl rfl) (pe_lst (pa_cons (pe_meth (pv 1) T.cl GV.m GV.ok hr4 GV.b .nil pass0 (pa_cons (pv 2) pa_nil)) (pa_cons (pe_meth (pv 1) T.cl FL.m FL.ok hr4 FL.b .nil pass0 (pa_cons (pv 2) pa_nil))
          (pa_cons (pe_meth (pv 1) T.cl CS.m CS.ok hr CS.b .nil pass0 (pa_cons (pv 2) pa_nil)) (pa_cons (pe_meth (pv 1) T.cl NT.m NT.ok hr4 NT.b .nil pass0 (pa_cons (pv 2) pa_nil)) (pa_cons (pe_meth (pv 1) T.cl PL.m PL.ok hr PL.b .nil pass0 (pa_cons (pv 2) pa_nil)) pa_nil)))))))
        (pss_cons (ps_set (i := 4) scLAl.nd rfl (.inl rfl) (pe_lst (pa_cons (pe_dget hu (pe_dget hu (pv 0) pe_str (fun _ _ => rfl)) (pv 2) (fun _ _ => rfl)) (pa_cons (pe_dget hu (pe_dget hu (pv 0) pe_str (fun _ _ => rfl)) (pv 2) (fun _ _ => rfl))
          (pa_cons (pe_call LC.ok hr2 (by rfl) LC.g LC.kp LC.b .nil pass0 (pa_cons (pv 0) (pa_cons (pv 2) pa_nil))) (pa_cons (pe_dget hu (pe_dget hu (pv 0) pe_str (fun _ _ => rfl)) (pv 2) (fun _ _ => rfl)) pa_nil))))))
        (pss_one (ps_if (pt_cmpR op_ne (pe_callB (call_repr hr hgd) (by rfl) B2.repr (by decide +kernel) (pa_cons (pv 3) pa_nil))
          (pe_callB (call_repr hr hgd) (by rfl) B2.repr (by decide +kernel) (pa_cons (pe_op op_cat (pv 4) (pe_lst (pa_cons (pe_call LL.ok hr2 (by rfl) LL.g LL.kp LL.b .nil pass0 (pa_cons (pv 0) (pa_cons (pv 2) pa_nil))) pa_nil))) pa_nil)) (nomark _))
          (pss_one (ps_ret pe_bl)) pss_nil)))))
      (pss_one (ps_ret pe_bl))), ?_⟩
    obtain ⟨dx, tn, on, wg, ws, wd, e, h1, hn, h2, h3, h4⟩ := hb.ex
    have okb := g.ok
    have nn := nice_names nz.nm
    refine ⟨.ref b, rfl, b, dx, _, rfl, e, bf_no (NoF.mk' (by decide +kernel)), b, _, rfl, hb, fun l nl => ?_⟩
    have s1 := same_upd (o := .lst ((bkOf zs D).names.map V.str)) nl
    have hM1 := model_same hM s1
    refine ⟨.ref a.m, rfl, a.m, .ref a.lo, rfl, hM1.g0, .list (zs.map .str), .list (zs.map .str), .lst (.inl (.inl upd_same)) (DpAll.strs zs), .lst (.inl (.inl hM1.ho)) (DpAll.strs zs), nice_shaped nn.list, nice_shaped nn.list, _, rfl, ?_⟩
    rw [SeqAt.eqv_refl _ nn.list.cl]
    refine iteF ?_
    refine ⟨.ref a.m, rfl, a.m, .ref a.lo, rfl, hM1.g0, a.lo, rfl, ⟨_, .inl (.inl hM1.ho)⟩, ?_⟩
    refine for_it (walk_list (K := K) (a := a.lo) (xs := zs.map V.str)) (fun i σ H' => ∃ y2 y3 y4, σ = [some (.ref a.m), some (.ref b), y2, y3, y4] ∧ Same H H') ⟨_, _, _, rfl, s1⟩ (fun i σ H' _ hP => ?_) (fun i x σ H2' H2 hi hP hY => ?_) (fun σ H' hP => ?_)
    · obtain ⟨_, _, _, _, s2⟩ := hP
      exact .inl (.inl (s2 _ _ hM.ho))
    · obtain ⟨rfl, hx⟩ := hY
      obtain ⟨y2, y3, y4, rfl, s2⟩ := hP
      rw [List.length_map] at hi
      have exx : x = .str zs[i] := by
        rw [List.getElem?_map, List.getElem?_eq_getElem hi] at hx
        exact (Option.some.inj hx).symm
      subst exx
      have ej : zs[i]? = some zs[i] := List.getElem?_eq_getElem hi
      obtain ⟨gv, f', l', r, xs, eg, ef, el, er, hr0, hd0⟩ := hM.at_ ej
      have hl' := g.nt l' (List.mem_of_getElem? el)
      have ll' := g.rows l' (List.mem_of_getElem? el)
      have gl := g.left el ef
      have lp : (leftN l' f').length ≤ 60 := Nat.le_trans (leftN_len _ _) ll'
      obtain ⟨bg, bff, bc⟩ := gb.bigs g ej eg ef el
      generalize hc : cashM (bkOf zs D) i zs[i] = cc at bc
      generalize hpl : leftN l' f' = pl at gl lp
      have noB : ∀ {m : Str}, ((m == "names") || (m == "gifts") || (m == "stacks") || (m == "drops")) = false → (bf (.ref tn) wg ws wd).lookup m = none := fun h => bf_no (NoF.mk' h)
      -- told
      refine ⟨.ref b, rfl, b, dx, _, rfl, s2 _ _ e, noB (by decide +kernel), .str zs[i], rfl, b, _, _, i, gv, rfl, book_same hb s2, nz, ej, eg, fun H3 s3 => ?_⟩
      have s23 := s2.trans s3
      refine ⟨.ref b, rfl, b, dx, _, rfl, s23 _ _ e, noB (by decide +kernel), .str zs[i], rfl, b, _, _, i, f', rfl, book_same hb s23, nz, ej, ef, fun H4 s4 => ?_⟩
      have s24 := s23.trans s4
      refine ⟨.ref b, rfl, b, dx, _, rfl, s24 _ _ e, noB (by decide +kernel), .str zs[i], rfl, b, _, _, i, rfl, book_same hb s24, okb, ej, fun H5 s5 => ?_⟩
      rw [hc]
      have s25 := s24.trans s5
      refine ⟨.ref b, rfl, b, dx, _, rfl, s25 _ _ e, noB (by decide +kernel), .str zs[i], rfl, b, _, _, i, l', f', rfl, book_same hb s25, nz, ej, el, ef, by omega, fun r1 x1 H6 s6 nr1 hr1' d1 => ?_⟩
      have s26 := s25.trans s6
      refine ⟨.ref b, rfl, b, dx, _, rfl, s26 _ _ e, noB (by decide +kernel), .str zs[i], rfl, b, _, _, i, l', f', rfl, book_same hb s26, nz, ej, el, ef, by omega, fun r2 x2 H7 s7 nr2 hr2' d2 => ⟨by show 5 ≤ sizeLine; decide, fun t1 nt1 => ?_⟩⟩
      rw [hpl] at d2
      have s8 := same_upd (o := .lst [V.int gv, V.int f', V.int cc, V.ref r1, V.ref r2]) nt1
      have s28 := s26.trans (s7.trans s8)
      generalize hH8 : upd H7 t1 (.lst [V.int gv, V.int f', V.int cc, V.ref r1, V.ref r2]) = H8 at s8 s28
      have ht1 : H8 t1 = some (.lst [V.int gv, V.int f', V.int cc, V.ref r1, V.ref r2]) := by
        rw [← hH8, upd_same]
      have hM8 := model_same hM s28
      -- wanted
      refine ⟨.ref a.m, rfl, a.m, .ref a.dg, rfl, hM8.g1, .str zs[i], rfl, a.dg, .int gv, rfl, hM8.gg ej eg, .ref a.m, rfl, a.m, .ref a.df, rfl, hM8.g2, .str zs[i], rfl, a.df, .int f', rfl, hM8.gf ej ef, .ref a.m, rfl, .str zs[i], rfl, a, D, zs, _, i, rfl, hM8, ej, g.rows, fun H9 s9 => ?_⟩
      have ec2 : cashD D i zs[i] = cc := by
        rw [← cash_eq zs]
        exact hc
      rw [ec2]
      have s29 := s28.trans s9
      have hM9 := model_same hM s29
      refine ⟨.ref a.m, rfl, a.m, .ref a.dn, rfl, hM9.g3, .str zs[i], rfl, a.dn, .ref r, rfl, hM9.gn ej er, by show 4 ≤ sizeLine; decide, fun t2 nt2 => ?_⟩
      have s10 := same_upd (o := .lst [V.int gv, V.int f', V.int cc, V.ref r]) nt2
      generalize hH10 : upd H9 t2 (.lst [V.int gv, V.int f', V.int cc, V.ref r]) = H10 at s10
      have ht2 : H10 t2 = some (.lst [V.int gv, V.int f', V.int cc, V.ref r]) := by
        rw [← hH10, upd_same]
      have s210 := s29.trans s10
      have dTold : Dt K H10 (.ref t1) (toldD gv f' cc l' pl) := .lst (.inl (.inl (s10 _ _ (s9 _ _ ht1)))) (.cons (.int _) (.cons (.int _) (.cons (.int _) (.cons (.lst (.inl (.inl ((s9.trans s10) _ _ (s8 _ _ (s7 _ _ hr1'))))) (DtAll.same ((s7.trans s8).trans (s9.trans s10)) _ d1))
        (.cons (.lst (.inl (.inl ((s9.trans s10) _ _ (s8 _ _ hr2')))) (DtAll.same (s8.trans (s9.trans s10)) _ d2)) .nil)))))
      have nt := nice_told nz.nm bg bff bc hl' ll' gl lp
      have dp20 : (toldD gv f' cc l' pl).depth ≤ 20 := by
        have := nt.dp
        omega
      refine ⟨.ref t1, rfl, .ref t1, toldD gv f' cc l' pl, rfl, dTold, nt.sh, .inl nt.nd, dp20, nice_fits nt (Nat.le_refl _), ?_⟩
      have hM10 := model_same hM s210
      refine ⟨.ref t2, rfl, .ref a.m, rfl, .str zs[i], rfl, a, D, zs, _, i, l', f', rfl, hM10, ej, el, ef, by omega, fun m mx H11 s11 nm hm dm => ⟨by show 1 ≤ sizeLine; decide, fun t3 nt3 => ?_⟩⟩
      rw [hpl] at dm
      have s12 := s11.trans (same_upd (o := .lst [V.ref m]) nt3)
      refine ⟨t2, t3, _, _, rfl, rfl, s12 _ _ ht2, upd_same, by show 4 + 1 ≤ sizeLine; decide, fun t4 nt4 => ?_⟩
      have s13 := same_upd (o := .lst ([V.int gv, V.int f', V.int cc, V.ref r] ++ [V.ref m])) nt4
      have s1013 := s12.trans s13
      have hMr : ∀ {H' : Hp}, Same H H' → Dt K H' (.ref r) (.list (notesD l')) := fun {H'} sm => .lst (.inl (.inl (sm _ _ hr0))) (DtAll.same sm _ hd0)
      have dW : Dt K (upd (upd H11 t3 (.lst [V.ref m])) t4 (.lst ([V.int gv, V.int f', V.int cc, V.ref r] ++ [V.ref m]))) (.ref t4) (toldD gv f' cc l' pl) := .lst (.inl (.inl upd_same)) (.cons (.int _) (.cons (.int _) (.cons (.int _) (.cons (hMr (s210.trans s1013))
        (.cons (.lst (.inl (.inl (s13 _ _ (same_upd nt3 _ _ hm)))) (DtAll.same ((same_upd nt3).trans s13) _ dm)) .nil)))))
      refine ⟨_, _, rfl, dW, nt.sh, .inl nt.nd, dp20, nice_fits nt (Nat.le_refl _), rfl, _, rfl, ?_⟩
      exact iteNS rfl ⟨_, _, _, rfl, s210.trans s1013⟩
    · obtain ⟨_, _, _, rfl, s2⟩ := hP
      exact q _ s2
end
end Rc

namespace Rc
open PySem PySem.Spec PyProof.Rows L2 RZ
def mostW (zs : List Str) (D : Md) (wd z : Str) : Int := if wd = "pay" then mostP (bkOf zs D) (zs.idxOf z) z else mostC zs (duesM (bkOf zs D)) z
theorem pay_ne_clear : ¬ (V.str ("clear" : Str)) = V.str ("pay" : Str) := fun e => absurd (V.str.inj e) (by decide +kernel)
theorem clear_ne : ¬ ("clear" : Str) = "pay" := by decide +kernel
def stepW (p : Str × Str) : PyData := .tuple [.str p.1, .str p.2]
theorem tup_stepW (p : Str × Str) : tupD (stepW p) = true := by simp [stepW, tupD, tupDs]
def kindsW : List Str := ["pay", "clear"]
def stepsAt (zs : List Str) (D : Md) (z : Str) : List (Str × Str) := (kindsW.filter fun k => decide (0 < mostW zs D k z)).map fun k => (k, z)
def stepsW (zs : List Str) (D : Md) : List (Str × Str) := zs.flatMap (stepsAt zs D)
def fallAll (zs : List Str) (D : Md) (r : List Str) (m : Int) : Md := r.foldl (fun D y => fellD D (zs.idxOf y) (D.fallen.getD (zs.idxOf y) 0 + m)) D
theorem steps_len (zs : List Str) (D : Md) (z : Str) : (stepsAt zs D z).length ≤ 2 := by
  unfold stepsAt
  rw [List.length_map]
  exact List.length_filter_le _ _
end Rc

namespace Rc
open PySem PySem.Spec PyProof.Rows L2 RZ
section
variable {P : Program} {w : World} {K : PySem.W.Frag} {mg : Str → Option Value} {base : Heap}
/-! ### _law_most -/
abbrev sLMo : Stmt := topS 63
abbrev nLMo : List Str := ["_law_model_here", "_law_step", "_law_who", "_law_left_here", "_law_around", "_law_one"]
theorem scLMo : FnScope nLMo ["_law_model_here", "_law_step", "_law_who"] (defScope sLMo) := ⟨rfl, rfl, rfl, by decide +kernel, rfl, by decide +kernel, by decide +kernel⟩
def spLMo (K : PySem.W.Frag) : Sp := fun vs H Q _ => ∃ (a : MdA) (D : Md) (zs : List Str) (wd z : Str), vs = [.ref a.m, .str wd, .str z] ∧ ModelAt K H zs a D ∧ Gs zs D ∧ z ∈ zs ∧ (wd = "pay" ∨ wd = "clear") ∧ ∀ H', Same H H' → Q (.int (mostW zs D wd z)) H'
theorem ok_lmo {f f1 f2 f3 : Addr} {fd fd1 fd2 fd3 : FuncData} (F : Fun K "_law_most" "_law_most" sLMo f fd) (B2 : Blt2 mg) (LL : Has P w K mg base 2 "_law_left" ["_law_model_here", "_law_who"] (spLLf K) f1 fd1) (LC : Has P w K mg base 2 "_law_cash" ["_law_model_here", "_law_who"] (spLCs K) f2 fd2)
    (LR : Has P w K mg base 5 "_law_ring" ["_law_model_here", "_law_who"] (spLRg K) f3 fd3) : FnOk P w K mg base CX0 6 f fd ["_law_model_here", "_law_step", "_law_who"] (spLMo K) := by
  refine F.ok scLMo (fun vs H Q E h => ?_) (fun cdv Ar outer s H vs Q E hr h => ?_)
  · obtain ⟨_, _, _, _, _, rfl, _⟩ := h
    rfl
  · obtain ⟨a, D, zs, wd, z, rfl, hM, g, hz, hw, q⟩ := h
    have hr2 := hr.mono (show 2 ≤ 5 by decide)
    refine ⟨_, pss_cons (ps_set (i := 3) scLMo.nd rfl (.inl rfl) (pe_call LL.ok hr2 (by rfl) LL.g LL.kp LL.b .nil pass0 (pa_cons (pv 0) (pa_cons (pv 2) pa_nil))))
      (pss_cons (ps_if (pt_cmpR op_eq (pv 1) pe_str (nomark _)) (pss_one (ps_ret (pe_ifExp (pt_cmpR (op_neD hr.units) (pv 3) (pe_lst pa_nil) (nomark _))
          (pe_callB (call_min2 rfl) (by rfl) B2.min (by decide +kernel) (pa_cons (pe_ix ix_tup (pe_ix ix_list (pv 3) pe_int (fun _ _ => rfl)) pe_int (fun _ _ => rfl)) (pa_cons (pe_call LC.ok hr2 (by rfl) LC.g LC.kp LC.b .nil pass0 (pa_cons (pv 0) (pa_cons (pv 2) pa_nil))) pa_nil))) pe_int))) pss_nil)
      (pss_cons (ps_set (i := 4) scLMo.nd rfl (.inl rfl) (pe_call LR.ok hr (by rfl) LR.g LR.kp LR.b .nil pass0 (pa_cons (pv 0) (pa_cons (pv 2) pa_nil))))
      (pss_one (ps_ret (pe_ifExp (pt_cmpR op_notN (pv 4) pe_non (nomark _)) (pe_callB (cr_min rfl) (by rfl) B2.min (by decide +kernel) (pa_cons
        (pe_lc (own := [("_law_one", 5)]) (g := gName 5) (tt := tYes) rfl scLMo.nd (pi_list (pv 4)) (blkOk_by (N := nLMo) (sc := defScope sLMo) (own := [("_law_one", 5)]) (by decide +kernel))
          (fun _ _ _ _ _ => pg_name (i := 5) scLMo.nd rfl (.inl rfl) (hf := .inr rfl)) (fun _ _ _ _ _ => pts_nil)
          (fun _ _ _ _ _ => pe_ix (ix_tupS (K := K) rfl) (pe_ix (ix_listS (K := K) rfl) (pe_call LL.ok hr2 (by rfl) LL.g LL.kp LL.b .nil pass0 (pa_cons (pv 0) (pa_cons (pv 5) pa_nil))) pe_int (fun _ _ => rfl)) pe_int (fun _ _ => rfl))) pa_nil)) pe_int))))), ?_⟩
    have ej := idx_get hz
    obtain ⟨gv, f', l', r, xs, eg, ef, el, er, hr0, hd0⟩ := hM.at_ ej
    have ll := g.rows l' (List.mem_of_getElem? el)
    have gl := g.left el ef
    have eo : (duesM (bkOf zs D)).getD (zs.idxOf z) none = (leftN l' f').head? := getD_of (dues_at (M := bkOf zs D) el ef)
    refine ⟨.ref a.m, rfl, .str z, rfl, a, D, zs, z, _, l', f', rfl, hM, ej, el, ef, by omega, fun m mx H1 s1 nm hm dm => ?_⟩
    refine ⟨.str wd, rfl, rfl, _, rfl, ?_⟩
    rcases hw with rfl | rfl
    · rw [decide_eq_true rfl]
      refine iteT ?_
      have em : mostW zs D "pay" z = mostP (bkOf zs D) (zs.idxOf z) z := by
        unfold mostW
        rw [if_pos rfl]
      rw [em] at q
      generalize leftN l' f' = L at dm gl eo
      refine ⟨.ref m, rfl, Nat.zero_le _, fun e ne => ?_⟩
      have s2 := same_upd (o := .lst []) ne
      have he : upd H1 e (.lst []) e = some (.lst []) := upd_same
      generalize upd H1 e (.lst []) = H2 at s2 he
      have hm2 := s2 _ _ hm
      have dm2 := DtAll.same s2 _ dm
      refine ⟨.list (notesD L), .list [], notes_dp hm2 dm2, .lst (.inl (.inl he)) .nil, nice_shaped (nice_notes g.nz.nm gl).list, shaped_nil, _, rfl, ?_⟩
      cases L with
      | nil =>
        rw [mostP_none eo] at q
        exact iteF (q H2 (s1.trans s2))
      | cons n t =>
        rw [mostP_some (n := n) eo] at q
        cases dm2 with
        | cons d1 d2 =>
          rename_i x xr
          obtain ⟨ta, rfl, qt⟩ := note_inv d1
          refine iteT ⟨.ref m, rfl, m, _, 0, .ref ta, rfl, rfl, .inl (.inl hm2), atI_nat (j := 0) rfl, ta, _, 1, .int n.2, rfl, rfl, qt, rfl, .ref a.m, rfl, .str z, rfl, a, D, zs, z, _, rfl, model_same hM (s1.trans s2), ej, g.rows, fun H3 s3 => ⟨_, _, rfl, ?_⟩⟩
          rw [← cash_eq zs]
          exact q H3 ((s1.trans s2).trans s3)
    · rw [decide_eq_false pay_ne_clear]
      refine iteF ?_
      have em : mostW zs D "clear" z = mostC zs (duesM (bkOf zs D)) z := by
        unfold mostW
        rw [if_neg clear_ne]
      rw [em] at q
      have wk := g.walks
      refine ⟨.ref a.m, rfl, .str z, rfl, a, D, zs, z, rfl, model_same hM s1, g, hz, fun v H2 s2 rv => ?_⟩
      have s12 := s1.trans s2
      cases hR : ringM zs (nxD zs D) z with
      | none =>
        rw [hR] at rv
        rw [mostC_none hR] at q
        have ev : v = .non := rv
        subst ev
        refine ⟨.non, rfl, rfl, _, rfl, ?_⟩
        rw [decide_eq_true rfl]
        exact iteF (q H2 s12)
      | some rr =>
        have rd := ring_due wk.ld hz hR
        have rn := ring_names g.nz.nm wk.lz wk.ld hz rr hR
        rw [hR] at rv
        rw [mostC_some hR] at q
        obtain ⟨av, rfl, nav, hav⟩ := rv
        refine ⟨.ref av, rfl, rfl, _, rfl, ?_⟩
        rw [decide_eq_false (fun c => by cases c)]
        refine iteT ⟨.ref av, rfl, av, rfl, ⟨_, .inl (.inl hav)⟩, fun D0 nD0 => ?_⟩
        refine lc_it (walk_list (K := K) (a := av) (xs := rr.map V.str)) (fun i H' => Same H2 H' ∧ H' D0 = some (.lst (((rr.take i).map (amtAt zs (duesM (bkOf zs D)))).map V.int))) ⟨same_upd nD0, upd_same⟩ (fun i H' _ hP => .inl (.inl (hP.1 _ _ hav)))
          (fun i x H3' H3 hi hP hY => ?_) (fun H3 hP => ?_)
        · obtain ⟨rfl, hx⟩ := hY
          rw [List.length_map] at hi
          have exx : x = .str rr[i] := by
            rw [List.getElem?_map, List.getElem?_eq_getElem hi] at hx
            exact (Option.some.inj hx).symm
          subst exx
          obtain ⟨hy, x2, hx2⟩ := rd _ (List.getElem_mem hi)
          have ejy := idx_get hy
          obtain ⟨gv2, f2', l2', r2, xs2, eg2, ef2, el2, er2, hr02, hd02⟩ := hM.at_ ejy
          have ll2 := g.rows l2' (List.mem_of_getElem? el2)
          have eo2 : (duesM (bkOf zs D)).getD (zs.idxOf rr[i]) none = (leftN l2' f2').head? := getD_of (dues_at (M := bkOf zs D) el2 ef2)
          refine ⟨rfl, .ref a.m, rfl, .str rr[i], rfl, a, D, zs, _, _, l2', f2', rfl, model_same hM (s12.trans hP.1), ejy, el2, ef2, by omega, fun m2 mx2 H4 s4 nm2 hm2 dm2 => ?_⟩
          have hx2 : nxD zs D rr[i] = some x2 := hx2
          rw [nxD_at hM.zn ejy el2 ef2] at hx2
          cases hL : leftN l2' f2' with
          | nil =>
            rw [hL] at hx2
            cases hx2
          | cons n t =>
            rw [hL] at dm2 eo2
            have ea : amtAt zs (duesM (bkOf zs D)) rr[i] = n.2 := by
              unfold amtAt
              rw [eo2]
              rfl
            cases dm2 with
            | cons d1 d2 =>
              rename_i x xr
              obtain ⟨ta, rfl, qt⟩ := note_inv d1
              refine ⟨m2, _, 0, .ref ta, rfl, rfl, .inl (.inl hm2), atI_nat (j := 0) rfl, ta, _, 1, .int n.2, rfl, rfl, qt, rfl, _, s4 _ _ hP.2, ?_, fun c o ec => ?_, ?_⟩
              · rw [List.length_map, List.length_map, List.length_take]
                have := rn.2
                exact small1000 (by omega)
              · rw [upd_ne (ne_of_none ec nD0)]
                exact s4 _ _ (hP.1 c o ec)
              · rw [upd_same, take_succ hi, List.map_append, List.map_append, ← ea]
                rfl
        · obtain ⟨s3, hD0⟩ := hP
          rw [List.length_map, List.take_length] at hD0
          have hne : 0 < (rr.map (amtAt zs (duesM (bkOf zs D)))).length := by
            rw [List.length_map]
            unfold ringM at hR
            split at hR
            · have e := Option.some.inj hR
              rw [← e, List.length_append, List.length_drop, List.length_take]
              have en := trail_ended wk.ld hz
              obtain ⟨r', er'⟩ := en.first
              have : (trailM zs (nxD zs D) z).length = r'.length + 1 := by rw [er']; rfl
              omega
            · cases hR
          refine ⟨D0, _, rfl, .inl (.inl hD0), hne, fun mn h1 h2 => ?_⟩
          have em2 := least_uniq h1 h2
          rw [em2]
          exact q H3 (s12.trans s3)
/-! ### _law_fall -/
abbrev sLFa : Stmt := topS 64
abbrev nLFa : List Str := ["_law_model_here", "_law_step", "_law_who", "_law_amount_here", "_law_one"]
theorem scLFa : FnScope nLFa ["_law_model_here", "_law_step", "_law_who", "_law_amount_here"] (defScope sLFa) := ⟨rfl, rfl, rfl, by decide +kernel, rfl, by decide +kernel, by decide +kernel⟩
/-- those of whom it falls -/
def fallers (zs : List Str) (D : Md) (wd z : Str) (r : List Str) : Prop := (wd = "pay" ∧ r = [z]) ∨ (wd = "clear" ∧ ringM zs (nxD zs D) z = some r)
def spLFa (K : PySem.W.Frag) : Sp := fun vs H Q _ => ∃ (a : MdA) (D : Md) (zs : List Str) (wd z : Str) (m : Int) (r : List Str), vs = [.ref a.m, .str wd, .str z, .int m] ∧ ModelAt K H zs a D ∧ Gs zs D ∧ z ∈ zs ∧ fallers zs D wd z r ∧ ∀ H', But a.df H H' → ModelAt K H' zs a (fallAll zs D r m) → Q .non H'
theorem ok_lfa {f f3 : Addr} {fd fd3 : FuncData} (F : Fun K "_law_fall" "_law_fall" sLFa f fd) (LR : Has P w K mg base 5 "_law_ring" ["_law_model_here", "_law_who"] (spLRg K) f3 fd3) : FnOk P w K mg base CX0 6 f fd ["_law_model_here", "_law_step", "_law_who", "_law_amount_here"] (spLFa K) := by
  refine F.ok scLFa (fun vs H Q E h => ?_) (fun cdv Ar outer s H vs Q E hr h => ?_)
  · obtain ⟨_, _, _, _, _, _, _, rfl, _⟩ := h
    rfl
  · obtain ⟨a, D, zs, wd, z, m, r, rfl, hM, g, hz, hf, q⟩ := h
    have hu := hu_of hr
    refine ⟨_, pss_one (ps_for PassesOwn.never rfl (pi_list (pe_ifExp (pt_cmpR op_eq (pv 1) pe_str (nomark _)) (pe_lst (pa_cons (pv 2) pa_nil)) (pe_call LR.ok hr (by rfl) LR.g LR.kp LR.b .nil pass0 (pa_cons (pv 0) (pa_cons (pv 2) pa_nil))))) (pg_name (i := 4) scLFa.nd rfl (.inl rfl))
      (pss_one (ps_dput hu (pe_dget hu (pv 0) pe_str (fun _ _ => rfl)) (pv 4) (pe_op op_add (pe_dget hu (pe_dget hu (pv 0) pe_str (fun _ _ => rfl)) (pv 4) (fun _ _ => rfl)) (pv 3)) rfl))), ?_⟩
    have wk := g.walks
    have lz := g.nz.n1
    have n0 := g.nz.n0
    have sub : ∀ y ∈ r, y ∈ zs := fun y hy => by
      rcases hf with ⟨_, rfl⟩ | ⟨_, hR⟩
      · rw [List.mem_singleton.mp hy]
        exact hz
      · exact (ring_due wk.ld hz hR y hy).1
    have loop : ∀ (L : Addr) (H1 : Hp), Same H H1 → H1 L = some (.lst (r.map V.str)) → L ≠ a.df → (∃ xs, SqL K H1 L xs) ∧ tFor (fun _ H R => R (Itl K L) H) (gName 4) (sDPut (tDGet (tVar 0) (tC (.str "fallen"))) (tVar 4) (tOp rAdd (tDGet (tDGet (tVar 0) (tC (.str "fallen"))) (tVar 4)) (tVar 3))) { nx := fun _ H' => Q .non H', rt := Q } (start nLFa [.ref a.m, .str wd, .str z, .int m]) H1 := fun L H1 s1 hL nL => by
      refine ⟨⟨_, .inl (.inl hL)⟩, ?_⟩
      have hM1 := model_same hM s1
      refine for_it (walk_list (K := K) (a := L) (xs := r.map V.str)) (fun i σ H' => ∃ y4, σ = [some (.ref a.m), some (.str wd), some (.str z), some (.int m), y4] ∧ But a.df H1 H' ∧ ModelAt K H' zs a (fallAll zs D (r.take i) m)) ⟨_, rfl, But.refl _ _, hM1⟩ (fun i σ H' _ hP => ?_) (fun i x σ H2' H2 hi hP hY => ?_) (fun σ H2 hP => ?_)
      · obtain ⟨_, _, b2, _⟩ := hP
        exact .inl (.inl (b2 _ _ nL hL))
      · obtain ⟨rfl, hx⟩ := hY
        obtain ⟨y4, rfl, b2, hM2⟩ := hP
        rw [List.length_map] at hi
        have exx : x = .str r[i] := by
          rw [List.getElem?_map, List.getElem?_eq_getElem hi] at hx
          exact (Option.some.inj hx).symm
        subst exx
        have hy := sub _ (List.getElem_mem hi)
        have ej := idx_get hy
        have ef0 := take_succ hi
        have eD : fallAll zs D (r.take (i + 1)) m = fellD (fallAll zs D (r.take i) m) (zs.idxOf r[i]) ((fallAll zs D (r.take i) m).fallen.getD (zs.idxOf r[i]) 0 + m) := by
          unfold fallAll
          rw [ef0, List.foldl_append]
          rfl
        rw [eD]
        generalize fallAll zs D (r.take i) m = D2 at hM2
        obtain ⟨gv, f', l', rw0, xs, eg, ef, el, er, hr0, hd0⟩ := hM2.at_ ej
        rw [getD_of ef]
        refine ⟨.ref a.m, rfl, a.m, .ref a.df, rfl, hM2.g2, .str r[i], rfl, a.df, .int f', rfl, hM2.gf ej ef, .int m, rfl, f', m, rfl, rfl, .ref a.m, rfl, a.m, .ref a.df, rfl, hM2.g2, .str r[i], rfl, ?_⟩
        have hjf : zs.idxOf r[i] < D2.fallen.length := (List.getElem?_eq_some_iff.mp ef).1
        refine ⟨a.df, _, rfl, DPut.k (k := Sum.inr r[i]) hM2.hf (by rw [dct_len (by rw [List.length_map, hM2.lf])]; exact small1000 (by omega)), ?_⟩
        rw [dct_put hM2.zn ej (by rw [List.length_map]; exact hjf), map_set V.int]
        exact ⟨_, rfl, b2.trans But.at, hM2.setF n0 (f' + m)⟩
      · obtain ⟨y4, rfl, b2, hM2⟩ := hP
        rw [List.length_map, List.take_length] at hM2
        exact q H2 ((same_but s1).trans b2) hM2
    have dfne : ∀ {L : Addr} {H1 : Hp} {xs : List V}, Same H H1 → H1 L = some (.lst xs) → L ≠ a.df := fun {L H1 xs} s1 hL c => by
      have := s1 _ _ hM.hf
      rw [← c, hL] at this
      cases this
    refine ⟨.str wd, rfl, rfl, _, rfl, ?_⟩
    rcases hf with ⟨rfl, rfl⟩ | ⟨rfl, hR⟩
    · rw [decide_eq_true rfl]
      refine iteT ⟨.str z, rfl, by show 1 ≤ sizeLine; decide, fun L nL => ⟨L, rfl, ?_⟩⟩
      exact loop L (upd H L (.lst [V.str z])) (same_upd nL) upd_same (dfne (H1 := upd H L (.lst [V.str z])) (xs := [V.str z]) (same_upd nL) upd_same)
    · rw [decide_eq_false pay_ne_clear]
      refine iteF ⟨.ref a.m, rfl, .str z, rfl, a, D, zs, z, rfl, hM, g, hz, fun v H1 s1 rv => ?_⟩
      rw [hR] at rv
      obtain ⟨av, rfl, nav, hav⟩ := rv
      exact ⟨av, rfl, loop av H1 s1 hav (dfne s1 hav)⟩
/-! ### _law_steps -/
abbrev sLSs : Stmt := topS 65
abbrev nLSs : List Str := ["_law_model_here", "_law_found", "_law_who", "_law_kind"]
theorem scLSs : FnScope nLSs ["_law_model_here"] (defScope sLSs) := ⟨rfl, rfl, rfl, by decide +kernel, rfl, by decide +kernel, by decide +kernel⟩
def spLSs (K : PySem.W.Frag) : Sp := fun vs H Q _ => ∃ (a : MdA) (D : Md) (zs : List Str), vs = [.ref a.m] ∧ ModelAt K H zs a D ∧ Gs zs D ∧ ∀ r xs H', Same H H' → H r = none → H' r = some (.lst xs) → DtAll K H' xs ((stepsW zs D).map stepW) → Q (.ref r) H'
theorem ok_lss {f f1 : Addr} {fd fd1 : FuncData} (F : Fun K "_law_steps" "_law_steps" sLSs f fd) (MO : Has P w K mg base 6 "_law_most" ["_law_model_here", "_law_step", "_law_who"] (spLMo K) f1 fd1) : FnOk P w K mg base CX0 7 f fd ["_law_model_here"] (spLSs K) := by
  refine F.ok scLSs (fun vs H Q E h => ?_) (fun cdv Ar outer s H vs Q E hr h => ?_)
  · obtain ⟨_, _, _, rfl, _⟩ := h
    rfl
  · obtain ⟨a, D, zs, rfl, hM, g, q⟩ := h
    have hu := hu_of hr
    refine ⟨_, pss_cons (ps_set (i := 1) scLSs.nd rfl (.inl rfl) (pe_lst pa_nil))
      (pss_cons (ps_for PassesOwn.never rfl (pi_list (pe_dget hu (pv 0) pe_str (fun _ _ => rfl))) (pg_name (i := 2) scLSs.nd rfl (.inr rfl))
        (pss_one (ps_set (i := 1) scLSs.nd rfl (.inl rfl) (pe_op op_cat (pv 1) (pe_lc (own := [("_law_kind", 3)]) (g := gName 3) rfl scLSs.nd (pi_tup (pe_tup (pa_cons pe_str (pa_cons pe_str pa_nil)))) (blkOk_by (N := nLSs) (sc := defScope sLSs) (own := [("_law_kind", 3)]) (by decide +kernel))
          (fun _ _ _ _ _ => pg_name (i := 3) scLSs.nd rfl (.inl rfl) (hf := .inr rfl)) (fun _ _ _ _ _ => pts_one (pt_cmpR op_gt (pe_call MO.ok hr (by rfl) MO.g MO.kp MO.b .nil pass0 (pa_cons (pv 0) (pa_cons (pv 3) (pa_cons (pv 2) pa_nil)))) pe_int (nomark _))) (fun _ _ _ _ _ => pe_tup (pa_cons (pv 3) (pa_cons (pv 2) pa_nil))))))))
      (pss_one (ps_ret (pv 1)))), ?_⟩
    have lz := g.nz.n1
    refine ⟨Nat.zero_le _, fun r0 nr0 => ?_⟩
    have s0 := same_upd (o := .lst []) nr0
    have hr0 : upd H r0 (.lst []) r0 = some (.lst []) := upd_same
    generalize upd H r0 (.lst []) = H0 at s0 hr0
    have hM0 := model_same hM s0
    refine ⟨.ref a.m, rfl, a.m, .ref a.lo, rfl, hM0.g0, a.lo, rfl, ⟨_, .inl (.inl hM0.ho)⟩, ?_⟩
    refine for_it (walk_list (K := K) (a := a.lo) (xs := zs.map V.str)) (fun i σ H' => ∃ r xs y2 y3, σ = [some (.ref a.m), some (.ref r), y2, y3] ∧ Same H H' ∧ H r = none ∧ H' r = some (.lst xs) ∧ DtAll K H' xs (((zs.take i).flatMap (stepsAt zs D)).map stepW) ∧ xs.length ≤ 2 * i)
      ⟨r0, [], _, _, rfl, s0, nr0, hr0, .nil, Nat.zero_le _⟩ (fun i σ H' _ hP => ?_) (fun i x σ H1' H1 hi hP hY => ?_) (fun σ H1 hP => ?_)
    · obtain ⟨_, _, _, _, _, s1, _⟩ := hP
      exact .inl (.inl (s1 _ _ hM.ho))
    · obtain ⟨rfl, hx⟩ := hY
      obtain ⟨r, xs, y2, y3, rfl, s1, nr, hr1, dr, lx⟩ := hP
      rw [List.length_map] at hi
      have exx : x = .str zs[i] := by
        rw [List.getElem?_map, List.getElem?_eq_getElem hi] at hx
        exact (Option.some.inj hx).symm
      subst exx
      have hz : zs[i] ∈ zs := List.getElem_mem hi
      have tk := take_succ hi
      generalize zs[i] = z at hz tk
      refine ⟨.ref r, rfl, by show 2 ≤ sizeLine; decide, fun tp ntp => ?_⟩
      have s2 := same_upd (o := .tup [V.str "pay", V.str "clear"]) ntp
      have htp : upd H1 tp (.tup [V.str "pay", V.str "clear"]) tp = some (.tup [V.str "pay", V.str "clear"]) := upd_same
      generalize upd H1 tp (.tup [V.str "pay", V.str "clear"]) = H2 at s2 htp
      have s12 := s1.trans s2
      refine ⟨tp, rfl, ⟨_, .inl (.inl htp)⟩, fun D0 nD0 => ?_⟩
      refine lc_it (walk_tup (K := K) (a := tp) (xs := kindsW.map V.str)) (fun i' H' => Same H2 H' ∧ ∃ ys, H' D0 = some (.lst ys) ∧ ys.length ≤ i' ∧ DtAll K H' ys ((((kindsW.take i').filter fun k => decide (0 < mostW zs D k z)).map fun k => (k, z)).map stepW)) ⟨same_upd nD0, [], upd_same, Nat.le_refl _, .nil⟩ (fun i' H' _ hP => same_seqT hP.1 (.inl (.inl htp)))
        (fun i' x H3' H3 hi' hP hY => ?_) (fun H3 hP => ?_)
      · obtain ⟨rfl, hx'⟩ := hY
        obtain ⟨s3, ys, hD0, ly, dy⟩ := hP
        rw [List.length_map] at hi'
        have exx : x = .str kindsW[i'] := by
          rw [List.getElem?_map, List.getElem?_eq_getElem hi'] at hx'
          exact (Option.some.inj hx').symm
        subst exx
        have hk0 : kindsW[i'] ∈ (["pay", "clear"] : List Str) := List.getElem_mem hi'
        have hkw : kindsW[i'] = "pay" ∨ kindsW[i'] = "clear" := by
          rcases List.mem_cons.mp hk0 with h | h
          · exact .inl h
          · exact .inr (List.mem_singleton.mp h)
        have tk' := take_succ hi'
        refine ⟨rfl, .ref a.m, rfl, .str kindsW[i'], rfl, .str z, rfl, a, D, zs, _, z, rfl, model_same hM (s12.trans s3), g, hz, hkw, fun H4 s4 => ⟨_, _, rfl, rfl, _, rfl, ?_⟩⟩
        have s34 := s3.trans s4
        have hD4 := s4 _ _ hD0
        by_cases hpos : 0 < mostW zs D kindsW[i'] z
        · rw [decide_eq_true hpos]
          refine iteT ⟨.str kindsW[i'], rfl, .str z, rfl, by show 2 ≤ sizeLine; decide, fun t nt => ⟨ys, by rw [upd_ne (ne_of_none hD4 nt)]; exact hD4, small1000 (by have : i' < 2 := hi'; omega), fun c o ec => ?_, ?_⟩⟩
          · rw [upd_ne (ne_of_none ec nD0), upd_ne (ne_of_none (s34 c o ec) nt)]
            exact s34 c o ec
          · have tD : t ≠ D0 := (ne_of_none hD4 nt).symm
            have kt : KT H4 (upd (upd H4 t (.tup [V.str kindsW[i'], V.str z])) D0 (.lst (ys ++ [.ref t]))) := (kt_same (same_upd nt)).trans (kt_upd (o := .lst ys) (by rw [upd_ne tD.symm]; exact hD4) fun z => z)
            refine ⟨ys ++ [.ref t], upd_same, by rw [List.length_append]; exact Nat.add_le_add_right ly 1, ?_⟩
            rw [tk', List.filter_append, List.map_append, List.map_append]
            refine (DtAll.keepT kt _ (tupDs_map tup_stepW _) (DtAll.same s4 _ dy)).append ?_
            rw [List.filter_cons, if_pos (decide_eq_true hpos)]
            refine .cons (.tup (.inl (.inl ?_)) (.cons (.str _) (.cons (.str _) .nil))) .nil
            rw [upd_ne tD, upd_same]
        · rw [decide_eq_false hpos]
          refine iteF ⟨s34, ys, hD4, by omega, ?_⟩
          rw [tk', List.filter_append]
          simp only [List.filter_cons, decide_eq_false hpos, List.filter_nil, Bool.false_eq_true, if_false, List.append_nil]
          exact DtAll.same s4 _ dy
      · obtain ⟨s3, ys, hD0, ly, dy⟩ := hP
        have ek : kindsW.take ((kindsW.map V.str).length) = kindsW := rfl
        rw [ek] at dy
        have s13 := s12.trans s3
        have hr3 := (s2.trans s3) _ _ hr1
        have l2 : (kindsW.map V.str).length = 2 := rfl
        refine ⟨r, D0, xs, ys, rfl, rfl, hr3, hD0, small_line (by omega), fun p np => ?_⟩
        have s4 := same_upd (o := .lst (xs ++ ys)) np
        refine ⟨p, xs ++ ys, _, _, rfl, s13.trans s4, s13.free np, upd_same, ?_, by rw [List.length_append]; omega⟩
        rw [tk, List.flatMap_append, List.map_append]
        refine (DtAll.same ((s2.trans s3).trans s4) _ dr).append ?_
        have e1 : [z].flatMap (stepsAt zs D) = stepsAt zs D z := by simp
        rw [e1]
        exact DtAll.same s4 _ dy
    · obtain ⟨r, xs, y2, y3, rfl, s1, nr, hr1, dr, lx⟩ := hP
      rw [List.length_map, List.take_length] at dr
      exact ⟨.ref r, rfl, q r xs H1 s1 nr hr1 dr⟩
end
end Rc

namespace Rc
open PySem PySem.Spec PyProof.Rows L2 RZ
/-! ### most_of as it is called -/
def gApp (us ws : List Value) : List Value := us ++ ws
def gAppV (vs zs : List V) : List V := vs ++ zs
abbrev psMost : List Str := ["book", "who", "word"]
structure HasMost (P : Program) (w : World) (K : PySem.W.Frag) (mg : Str → Option Value) (base : Heap) (k : Nat) (sp : Sp) (f : Addr) (fd : FuncData) : Prop where
  ok : FnOk P w K mg base CX0 k f fd psMost sp
  g : mg "most_of" = some (.ref f)
  kp : PySem.W.keepIn K (.ref f) = true
  kb : KBn K fd psMost 2 ["word"] gApp gAppV
  db : ∃ ds, Vals [V.str "pay"] ds ∧ Binds K fd psMost ds
theorem kbMost {K : PySem.W.Frag} {nm q : Str} {st : Stmt} {f : Addr} {fd : FuncData} (F : Fun K nm q st f fd)
    (h : ∀ (kV doc pm : Value) (an : Option Addr) (cdv ct u v w : Value), bindArgs (PySem.W.fnOf nm q (defArgs st) (defBody st) (defScope st) .none kV doc pm an cdv ct) ⟨[u, v], [((("word" : Str)), w)]⟩ = pure [((("book" : Str)), u), ((("who" : Str)), v), ((("word" : Str)), w)]) : KBn K fd psMost 2 ["word"] gApp gAppV := by
  obtain ⟨oc, od, kV, doc, pm, an, cdv, ct, osl, rfl, lk, hcd⟩ := F.ex
  exact ⟨fun s us ws _ h1 h2 => match us, ws, h1, h2 with | [u, v], [w], _, _ => .of_eq (h kV doc pm an cdv ct u v w), fun a b => a.append b⟩
/-- a def with one keyword of its own, of which the default is known -/
def DefKOf {K : PySem.W.Frag} {h : Heap} (_ : K.In h) (mg : Str → Option Value) (nm : Str) (st : Stmt) (kw : Str) (v : V) : Prop := ∃ f fd, Fun K nm nm st f fd ∧ FunD K nm nm (defArgs st) (defBody st) (defScope st) [] [(kw, v)] f fd ∧ mg nm = some (.ref f)
theorem mkDefK {K : PySem.W.Frag} {h : Heap} {mg : Str → Option Value} (X : K.In h) (G : h.Ns mainGlobals mg) {nm kw : Str} {st : Stmt} {f Dk : Addr} {oc : Value} {od an : Option Addr} {osl : Array (Option Value)} {doc pm cdv ct u : Value} {v : V}
    (a : PySem.W.nsIn K mainGlobals nm = some (some (.ref f)))
    (l : K.lookup f = some ⟨oc, od, .func (PySem.W.fnOf nm nm (defArgs st) (defBody st) (defScope st) .none (.ref Dk) doc pm an cdv ct), osl⟩)
    (c : PySem.W.codeIn K cdv nm = true) (k : PySem.W.keepIn K (.ref f) = true) (n : PySem.W.nsIn K Dk kw = some (some u)) (r : RelV v u) : DefKOf X mg nm st kw v :=
  ⟨f, _, fun_mk l c k, ⟨⟨_, _, _, _, _, _, _, _, _, _, rfl, l, c, .inl ⟨rfl, rfl⟩, .inr ⟨Dk, rfl, fun q hq => by rw [List.mem_singleton.mp hq]; exact ⟨u, n, r⟩⟩⟩, k⟩, PySem.W.mg_of X G a⟩
/-- a table of two defs, by their names -/
def TabOf {K : PySem.W.Frag} {h : Heap} (_ : K.In h) (w : World) (mg : Str → Option Value) (nm np nc : Str) : Prop := ∃ fp fc, TabAt K w mg nm fp fc ∧ mg np = some (.ref fp) ∧ mg nc = some (.ref fc)
theorem mkTab {K : PySem.W.Frag} {h : Heap} {mg : Str → Option Value} {w : World} (X : K.In h) (G : h.Ns mainGlobals mg) {nm np nc : Str} {d fp fc : Addr} {es : Array DictEntry} {n : Nat}
    (a : PySem.W.nsIn K mainGlobals nm = some (some (.ref d))) (l : K.lookup d = some ⟨.type "dict", none, .dict es n, #[]⟩) (k : PySem.W.KeysLit w.params es.toList) (low : (d == sysModules) = false)
    (p1 : PySem.W.nsIn K d "pay" = some (some (.ref fp))) (c1 : PySem.W.nsIn K d "clear" = some (some (.ref fc))) (p2 : PySem.W.nsIn K mainGlobals np = some (some (.ref fp))) (c2 : PySem.W.nsIn K mainGlobals nc = some (some (.ref fc))) : TabOf X w mg nm np nc :=
  ⟨fp, fc, ⟨d, es, n, PySem.W.mg_of X G a, ⟨l, k, low⟩, p1, c1⟩, PySem.W.mg_of X G p2, PySem.W.mg_of X G c2⟩
theorem mkClsE {K : PySem.W.Frag} {C : Addr} (a : PySem.W.findIn K (.ref C) "__class__" = some (some (.builtin "object.__class__"))) (n : PySem.W.specialIn K (.builtin "object.__class__") "__get__" = some (some (.builtin "getset_descriptor.__get__")))
    (t : PySem.W.takesIn K (.builtin "object.__class__") = some true) (m : PySem.W.mroIn K C (.type "object") = some true) (e : PySem.W.findIn K (.ref C) "__ne__" = some (some (.builtin "object.__ne__"))) : ClsE K C := ⟨a, n, t, m, e⟩
end Rc

namespace Rc
open PySem PySem.Spec PyProof.Rows L2 RZ
/-! ### a ring goes round -/
theorem chain_tail {nx : Str → Option Str} {x : Str} {r : List Str} (c : Chain nx (x :: r)) : Chain nx r := fun i a b h1 h2 => c (i + 1) a b (by simpa using h1) (by simpa using h2)
theorem chain_map {nx : Str → Option Str} : ∀ (r : List Str) (x : Str), Chain nx (x :: r) → (x :: r).map nx = r.map some ++ [nx (r.getLastD x)]
  | [], x, _ => rfl
  | y :: r, x, c => by
    have ih := chain_map r y (chain_tail c)
    have e : nx x = some y := c 0 x y rfl rfl
    rw [List.map_cons, ih, e, List.map_cons]
    show some y :: (r.map some ++ [nx (r.getLastD y)]) = some y :: (r.map some) ++ [nx ((y :: r).getLastD x)]
    have : (y :: r).getLastD x = r.getLastD y := by cases r <;> simp [List.getLastD]
    rw [this]
    rfl
theorem ring_perm {zs : List Str} {nx : Str → Option Str} {z : Str} {r : List Str} (ld : Leads zs nx) (hz : z ∈ zs) (h : ringM zs nx z = some r) : (r.map nx).Perm (r.map some) ∧ r.Nodup ∧ (∀ y ∈ r, y ∈ zs) ∧ r ≠ [] := by
  have en := trail_ended ld hz
  have ch := trailM_chain zs nx z
  unfold ringM at h
  split at h
  · rename_i hl
    have e := Option.some.inj h
    subst e
    generalize hi : (trailM zs nx z).idxOf (firstM zs (trailM zs nx z)) = i
    obtain ⟨tl, eT⟩ := en.first
    have eL : tl.getLastD z = lastM zs nx z := by
      unfold lastM
      rw [eT]
      cases tl with
      | nil => rfl
      | cons a b => simp
    have p1 : ((trailM zs nx z).drop i ++ (trailM zs nx z).take i).Perm (trailM zs nx z) := by
      have := List.perm_append_comm (l₁ := (trailM zs nx z).drop i) (l₂ := (trailM zs nx z).take i)
      rw [List.take_append_drop] at this
      exact this
    have p2 : ((trailM zs nx z).map nx).Perm ((trailM zs nx z).map some) := by
      rw [eT] at ch ⊢
      rw [chain_map tl z ch, eL, hl, List.map_cons]
      exact List.perm_append_comm
    refine ⟨(p1.map nx).trans (p2.trans (p1.map some).symm), p1.symm.nodup en.nd, fun y hy => en.sub y (p1.mem_iff.mp hy), fun c => ?_⟩
    have := p1.length_eq
    rw [c, eT] at this
    simp at this
  · cases h
theorem ring_count {nx : Str → Option Str} {r : List Str} (p : (r.map nx).Perm (r.map some)) (nd : r.Nodup) (y : Str) : (r.filter fun x => decide (nx x = some y)).length = if y ∈ r then 1 else 0 := by
  have h1 := p.count_eq (some y)
  have h2 : (r.map nx).count (some y) = (r.filter fun x => decide (nx x = some y)).length := by
    rw [List.count, List.countP_map, List.countP_eq_length_filter]
    refine congrArg List.length (List.filter_congr fun x _ => ?_)
    show (nx x == some y) = decide (nx x = some y)
    by_cases h : nx x = some y
    · rw [h]
      simp
    · rw [decide_eq_false h]
      exact beq_false_of_ne h
  have h3 : (r.map some).count (some y) = r.count y := by
    rw [List.count, List.countP_map, List.count]
    congr 1
  rw [← h2, h1, h3]
  exact nd.count
/-! ### falling of several -/
theorem fell_cash {zs : List Str} {D : Md} {j : Nat} {t : Str} {l r : List (Str × Int)} {f m b : Int} (hn : ∀ n ∈ l, 1 ≤ n.2) (f0 : 0 ≤ f) (el : D.notes[j]? = some l) (ef : D.fallen[j]? = some f) (e : leftN l f = (t, b) :: r) (m0 : 0 ≤ m) (mb : m ≤ b)
    (i : Nat) (y : Str) : cashM (bkOf zs (fellD D j (f + m))) i y = cashM (bkOf zs D) i y + (if t = y then m else 0) - (if i = j then m else 0) := by
  obtain ⟨_, h2⟩ := fall_one hn f0 m0 mb e
  have e1 : fallTo (bkOf zs (fellD D j (f + m))) y = fallTo (bkOf zs D) y + (if t = y then m else 0) := by
    show ((D.notes.zip (D.fallen.set j (f + m))).map fun p => sumTo y (goneN p.1 p.2)).sum = ((D.notes.zip D.fallen).map fun p => sumTo y (goneN p.1 p.2)).sum + _
    rw [sum_zip_set (α := Nat) (fun p => sumTo y (goneN p.1 p.2)) D.notes D.fallen j l f (f + m) el ef]
    show _ + (sumTo y (goneN l (f + m)) - sumTo y (goneN l f)) = _
    rw [h2 y]
    omega
  have e2 : (bkOf zs (fellD D j (f + m))).drops.getD i 0 = (bkOf zs D).drops.getD i 0 + (if i = j then m else 0) := by
    show (D.fallen.set j (f + m)).getD i 0 = D.fallen.getD i 0 + _
    by_cases h : i = j
    · subst h
      rw [if_pos rfl, getD_of ef]
      have hj : i < D.fallen.length := (List.getElem?_eq_some_iff.mp ef).1
      rw [getD_of (List.getElem?_set_self hj)]
    · rw [if_neg h, List.getD_eq_getElem?_getD, List.getElem?_set_ne (fun c => h c.symm), List.getD_eq_getElem?_getD]
      omega
  unfold cashM
  rw [e1, e2]
  show (bkOf zs D).gifts.getD i 0 + _ - _ = _
  omega
theorem fallAll_cons (zs : List Str) (D : Md) (x : Str) (r : List Str) (m : Int) : fallAll zs D (x :: r) m = fallAll zs (fellD D (zs.idxOf x) (D.fallen.getD (zs.idxOf x) 0 + m)) r m := rfl
theorem fallAll_keeps (zs : List Str) (m : Int) : ∀ (r : List Str) (D : Md), (fallAll zs D r m).given = D.given ∧ (fallAll zs D r m).notes = D.notes ∧ (fallAll zs D r m).fallen.length = D.fallen.length
  | [], _ => ⟨rfl, rfl, rfl⟩
  | x :: r, D => by
    rw [fallAll_cons]
    obtain ⟨a, b, c⟩ := fallAll_keeps zs m r (fellD D (zs.idxOf x) (D.fallen.getD (zs.idxOf x) 0 + m))
    refine ⟨a, b, c.trans ?_⟩
    show (D.fallen.set _ _).length = _
    rw [List.length_set]
theorem fallAll_at {zs : List Str} (nd : zs.Nodup) (m : Int) : ∀ (r : List Str) (D : Md), r.Nodup → (∀ y ∈ r, y ∈ zs) → D.fallen.length = zs.length → ∀ (i : Nat) (y : Str) (f : Int), zs[i]? = some y → D.fallen[i]? = some f →
    (fallAll zs D r m).fallen[i]? = some (f + if y ∈ r then m else 0)
  | [], D, _, _, _, i, y, f, _, ef => by
    show D.fallen[i]? = _
    rw [ef]
    simp
  | x :: r, D, nr, sub, lf, i, y, f, ei, ef => by
    obtain ⟨n1, n2⟩ := List.nodup_cons.mp nr
    rw [fallAll_cons]
    have hx := sub x List.mem_cons_self
    have ex := idx_get hx
    have hxl : zs.idxOf x < D.fallen.length := by
      rw [lf]
      exact List.idxOf_lt_length_of_mem hx
    have ih := fallAll_at nd m r (fellD D (zs.idxOf x) (D.fallen.getD (zs.idxOf x) 0 + m)) n2 (fun y hy => sub y (List.mem_cons_of_mem _ hy)) (by show (D.fallen.set _ _).length = _; rw [List.length_set]; exact lf) i y
    by_cases h : i = zs.idxOf x
    · subst h
      have exy : x = y := Option.some.inj (ex.symm.trans ei)
      subst exy
      have e2 : (fellD D (zs.idxOf x) (D.fallen.getD (zs.idxOf x) 0 + m)).fallen[zs.idxOf x]? = some (f + m) := by
        show (D.fallen.set _ _)[_]? = _
        rw [List.getElem?_set_self hxl, getD_of ef]
      rw [ih _ ei e2, if_neg n1, if_pos List.mem_cons_self]
      congr 1
      omega
    · have hne : ¬ y = x := fun c => h (by
        rw [← c]
        obtain ⟨hi, e⟩ := List.getElem?_eq_some_iff.mp ei
        rw [← e]
        exact (nd.idxOf_getElem i hi).symm)
      have e2 : (fellD D (zs.idxOf x) (D.fallen.getD (zs.idxOf x) 0 + m)).fallen[i]? = some f := by
        show (D.fallen.set _ _)[_]? = _
        rw [List.getElem?_set_ne (fun c => h c.symm)]
        exact ef
      rw [ih _ ei e2]
      congr 1
      have : (y ∈ x :: r) ↔ y ∈ r := by
        rw [List.mem_cons]
        exact ⟨fun c => c.resolve_left hne, .inr⟩
      simp only [this]
/-- each of some persons has a due note of at least so much -/
def DuesOf (zs : List Str) (D : Md) (nx : Str → Option Str) (m : Int) (r : List Str) : Prop := ∀ x ∈ r, ∃ l f t b rest, D.notes[zs.idxOf x]? = some l ∧ D.fallen[zs.idxOf x]? = some f ∧ (∀ n ∈ l, 1 ≤ n.2) ∧ 0 ≤ f ∧ leftN l f = (t, b) :: rest ∧ m ≤ b ∧ nx x = some t
theorem fallAll_cash {zs : List Str} (nd : zs.Nodup) {nx : Str → Option Str} {m : Int} (m0 : 0 ≤ m) : ∀ (r : List Str) (D : Md), r.Nodup → (∀ y ∈ r, y ∈ zs) → DuesOf zs D nx m r → ∀ (i : Nat) (y : Str), zs[i]? = some y →
    cashM (bkOf zs (fallAll zs D r m)) i y = cashM (bkOf zs D) i y + m * ((r.filter fun x => decide (nx x = some y)).length : Int) - (if y ∈ r then m else 0)
  | [], D, _, _, _, i, y, _ => by
    show cashM (bkOf zs D) i y = _
    simp
  | x :: r, D, nr, sub, du, i, y, ei => by
    obtain ⟨n1, n2⟩ := List.nodup_cons.mp nr
    rw [fallAll_cons]
    obtain ⟨l, f, t, b, rest, el, ef, hn, f0, eL, mb, ex⟩ := du x List.mem_cons_self
    rw [getD_of ef]
    have du2 : DuesOf zs (fellD D (zs.idxOf x) (f + m)) nx m r := fun x' hx' => by
      obtain ⟨l2, f2, t2, b2, rest2, el2, ef2, hn2, f02, eL2, mb2, ex2⟩ := du x' (List.mem_cons_of_mem _ hx')
      have hne : zs.idxOf x ≠ zs.idxOf x' := fun c => by
        have e1 := idx_get (sub x List.mem_cons_self)
        have e2 := idx_get (sub x' (List.mem_cons_of_mem _ hx'))
        rw [c, e2] at e1
        exact n1 (Option.some.inj e1 ▸ hx')
      refine ⟨l2, f2, t2, b2, rest2, el2, ?_, hn2, f02, eL2, mb2, ex2⟩
      show (D.fallen.set _ _)[_]? = _
      rw [List.getElem?_set_ne hne]
      exact ef2
    rw [fallAll_cash nd m0 r _ n2 (fun y hy => sub y (List.mem_cons_of_mem _ hy)) du2 i y ei, fell_cash hn f0 el ef eL m0 mb i y]
    have hix : (i = zs.idxOf x) ↔ y = x := by
      obtain ⟨hi, e⟩ := List.getElem?_eq_some_iff.mp ei
      refine ⟨fun c => ?_, fun c => ?_⟩
      · have := idx_get (sub x List.mem_cons_self)
        rw [← c, ei] at this
        exact Option.some.inj this
      · rw [← c, ← e]
        exact (nd.idxOf_getElem i hi).symm
    rw [List.filter_cons, ex]
    have c1 : (if t = y then m else 0) + m * ((r.filter fun x => decide (nx x = some y)).length : Int) = m * (((if decide (some t = some y) = true then x :: r.filter fun x => decide (nx x = some y) else r.filter fun x => decide (nx x = some y)).length : Nat) : Int) := by
      by_cases h : t = y
      · rw [if_pos h, if_pos (decide_eq_true (congrArg some h)), List.length_cons, Int.natCast_add, Int.mul_add]
        simp
        omega
      · rw [if_neg h, if_neg (by simp [h])]
        omega
    have c2 : (if i = zs.idxOf x then m else 0) + (if y ∈ r then m else 0) = (if y ∈ x :: r then m else 0) := by
      by_cases h : y = x
      · subst h
        rw [if_pos (hix.mpr rfl), if_neg n1, if_pos List.mem_cons_self]
        omega
      · rw [if_neg (fun c => h (hix.mp c))]
        have : (y ∈ x :: r) ↔ y ∈ r := by
          rw [List.mem_cons]
          exact ⟨fun c => c.resolve_left h, .inr⟩
        simp only [this]
        omega
    omega
theorem moreAt_all (m : Int) (y : Str) : ∀ r : List Str, moreAt (r.map fun x => (x, m)) y = if y ∈ r then m else 0
  | [] => rfl
  | x :: r => by
    have ih := moreAt_all m y r
    unfold moreAt at ih ⊢
    rw [List.map_cons]
    by_cases h : x = y
    · rw [List.find?_cons_of_pos (by simp [h]), if_pos (by rw [h]; exact List.mem_cons_self)]
      rfl
    · rw [List.find?_cons_of_neg (by simp [h]), ih]
      have : (y ∈ x :: r) ↔ y ∈ r := by
        rw [List.mem_cons]
        exact ⟨fun c => c.resolve_left fun e => h e.symm, .inr⟩
      simp only [this]
theorem fallAll_eq {zs : List Str} {D : Md} {r : List Str} {m : Int} (nd : zs.Nodup) (lf : D.fallen.length = zs.length) (nr : r.Nodup) (sub : ∀ y ∈ r, y ∈ zs) : fallM (bkOf zs D) (r.map fun x => (x, m)) = bkOf zs (fallAll zs D r m) := by
  obtain ⟨a, b, c⟩ := fallAll_keeps zs m r D
  have e : ((zs.zip D.fallen).map fun p => p.2 + moreAt (r.map fun x => (x, m)) p.1) = (fallAll zs D r m).fallen := by
    refine List.ext_getElem? fun i => ?_
    rw [List.getElem?_map]
    by_cases hi : i < zs.length
    · have hf : i < D.fallen.length := by omega
      rw [List.getElem?_zip_eq_some (z := (zs[i], D.fallen[i])) |>.mpr ⟨List.getElem?_eq_getElem hi, List.getElem?_eq_getElem hf⟩, fallAll_at nd m r D nr sub lf i zs[i] D.fallen[i] (List.getElem?_eq_getElem hi) (List.getElem?_eq_getElem hf)]
      show some (D.fallen[i] + moreAt (r.map fun x => (x, m)) zs[i]) = _
      rw [moreAt_all]
    · rw [List.getElem?_eq_none (by rw [List.length_zip]; omega), List.getElem?_eq_none (by omega)]
      rfl
  show Bk.mk zs D.given D.notes ((zs.zip D.fallen).map fun p => p.2 + moreAt (r.map fun x => (x, m)) p.1) = Bk.mk zs (fallAll zs D r m).given (fallAll zs D r m).notes (fallAll zs D r m).fallen
  rw [e, a, b]
/-- a ring that is cleared -/
theorem clear_ok {zs : List Str} {D : Md} {z : Str} {m : Int} {r : List Str} (g : Gs zs D) (gb : Gb D) (hz : z ∈ zs) (m1 : 1 ≤ m) (hR : ringM zs (nxD zs D) z = some r) (mm : m ≤ leastI (r.map (amtAt zs (duesM (bkOf zs D))))) :
    Gs zs (fallAll zs D r m) ∧ Gb (fallAll zs D r m) ∧ FallOk (bkOf zs D) (r.map fun x => (x, m)) ∧ r.Nodup ∧ (∀ y ∈ r, y ∈ zs) := by
  have wk := g.walks
  obtain ⟨p, nr, sub, ne⟩ := ring_perm wk.ld hz hR
  have rd := ring_due wk.ld hz hR
  have du : DuesOf zs D (nxD zs D) m r := fun x hx => by
    obtain ⟨hxz, t, ht⟩ := rd x hx
    have hj : zs.idxOf x < zs.length := List.idxOf_lt_length_of_mem hxz
    have h1 : zs.idxOf x < D.notes.length := by rw [g.ln]; exact hj
    have h2 : zs.idxOf x < D.fallen.length := by rw [g.lf]; exact hj
    have el := List.getElem?_eq_getElem h1
    have ef := List.getElem?_eq_getElem h2
    have hnx : nxD zs D x = some t := ht
    rw [nxD_at g.nz.nd (idx_get hxz) el ef] at hnx
    cases hL : leftN D.notes[zs.idxOf x] D.fallen[zs.idxOf x] with
    | nil =>
      rw [hL] at hnx
      cases hnx
    | cons n rest =>
      obtain ⟨t', b⟩ := n
      rw [hL] at hnx
      have e1 : t' = t := Option.some.inj hnx
      subst e1
      have ea : amtAt zs (duesM (bkOf zs D)) x = b := by
        unfold amtAt
        have eo : (duesM (bkOf zs D)).getD (zs.idxOf x) none = (leftN D.notes[zs.idxOf x] D.fallen[zs.idxOf x]).head? := getD_of (dues_at (M := bkOf zs D) el ef)
        rw [eo, hL]
        rfl
      have hb : m ≤ b := by
        have := (least_mem (ns := r.map (amtAt zs (duesM (bkOf zs D)))) (by simpa using ne)).2 _ (List.mem_map.mpr ⟨x, hx, rfl⟩)
        omega
      exact ⟨_, _, t', b, rest, el, ef, fun n hn => (g.nt _ (List.getElem_mem h1) n hn).2.1, g.fl _ (List.getElem_mem h2), hL, hb, ht⟩
  obtain ⟨ka, kb, kc⟩ := fallAll_keeps zs m r D
  have cs : ∀ (i : Nat) (y : Str), zs[i]? = some y → 0 ≤ cashM (bkOf zs (fallAll zs D r m)) i y := fun i y ei => by
    rw [fallAll_cash g.nz.nd (by omega) r D nr sub du i y ei, ring_count p nr y]
    have c0 := g.cs i y ei
    by_cases h : y ∈ r
    · rw [if_pos h, if_pos h]
      simp
      omega
    · rw [if_neg h, if_neg h]
      simp
      omega
  have at_ : ∀ (i : Nat) (f' : Int), (fallAll zs D r m).fallen[i]? = some f' → ∃ y f, zs[i]? = some y ∧ D.fallen[i]? = some f ∧ f' = f + if y ∈ r then m else 0 := fun i f' e => by
    have hi : i < (fallAll zs D r m).fallen.length := (List.getElem?_eq_some_iff.mp e).1
    have hif : i < D.fallen.length := by omega
    have hiz : i < zs.length := by
      rw [← g.lf]
      exact hif
    have := fallAll_at g.nz.nd m r D nr sub g.lf i zs[i] D.fallen[i] (List.getElem?_eq_getElem hiz) (List.getElem?_eq_getElem hif)
    rw [e] at this
    exact ⟨_, _, List.getElem?_eq_getElem hiz, List.getElem?_eq_getElem hif, Option.some.inj this⟩
  have fw : ∀ (i : Nat) (y : Str) (l : List (Str × Int)) (f : Int), zs[i]? = some y → D.notes[i]? = some l → D.fallen[i]? = some f → y ∈ r → f + m ≤ wholeN l := fun i y l f ei el ef hy => by
    obtain ⟨l2, f2, t2, b2, rest2, el2, ef2, hn2, f02, eL2, mb2, _⟩ := du y hy
    have e : zs.idxOf y = i := by
      obtain ⟨hi, e⟩ := List.getElem?_eq_some_iff.mp ei
      rw [← e]
      exact g.nz.nd.idxOf_getElem i hi
    rw [e, el] at el2
    rw [e, ef] at ef2
    have e1 := Option.some.inj el2
    have e2 := Option.some.inj ef2
    subst e1 e2
    exact (fall_one hn2 f02 (by omega) mb2 eL2).1
  refine ⟨⟨g.nz, by rw [kb]; exact g.nt, fun x hx => ?_, by rw [kb]; exact g.my, by rw [ka]; exact g.lg, by rw [kc]; exact g.lf, by rw [kb]; exact g.ln, cs⟩, ⟨by rw [ka]; exact gb.gv, fun i l f' el' ef' => ?_⟩, ⟨fun q hq => ?_, fun i y ei => ?_⟩, nr, sub⟩
  · obtain ⟨i, hi, e⟩ := List.getElem_of_mem hx
    obtain ⟨y, f, _, ef, e2⟩ := at_ i x (by rw [List.getElem?_eq_getElem hi, e])
    have f0 := g.fl f (List.mem_of_getElem? ef)
    rw [e2]
    split <;> omega
  · rw [kb] at el'
    obtain ⟨y, f, ei, ef, e2⟩ := at_ i f' ef'
    rw [e2]
    by_cases hy : y ∈ r
    · rw [if_pos hy]
      exact fw i y l f ei el' ef hy
    · rw [if_neg hy, Int.add_zero]
      exact gb.fw i l f el' ef
  · obtain ⟨x, hx, rfl⟩ := List.mem_map.mp hq
    obtain ⟨l, f, t, b, rest, el, ef, hn, f0, eL, mb, ex⟩ := du x hx
    exact ⟨_, l, f, idx_get (sub x hx), el, ef, by show 0 ≤ m; omega, (fall_one hn f0 (by omega) mb eL).1⟩
  · rw [fallAll_eq g.nz.nd g.lf nr sub]
    exact cs i y ei
end Rc

namespace Rc
open PySem PySem.Spec PyProof.Rows L2 RZ
theorem ring_least {M : Bk} (ok : M.Ok) (cl : Closed M) {z : Str} (hz : z ∈ M.names) {r : List Str} (h : ringM M.names (nxM M) z = some r) : r ≠ [] ∧ r.length ≤ 12 ∧ (∀ y ∈ r, y ∈ M.names ∧ ∃ x, nxM M y = some x) := by
  have wk := walks_of ok cl
  obtain ⟨_, nr, sub, ne⟩ := ring_perm wk.ld hz h
  exact ⟨ne, Nat.le_trans (nodup_le _ _ nr sub) wk.lz, ring_due wk.ld hz h⟩
structure ClearOk (M : Bk) (z : Str) (m : Int) (r : List Str) : Prop where
  ok : M.Ok
  cl : Closed M
  hz : z ∈ M.names
  m1 : 1 ≤ m
  ring : ringM M.names (nxM M) z = some r
  most : m ≤ leastI (r.map (amtAt M.names (duesM M)))
  nd : r.Nodup
  fo : FallOk M (r.map fun x => (x, m))
end Rc

namespace Rc
open PySem PySem.Spec PyProof.Rows L2 RZ
theorem moreK_dct (r : List Str) (m : Int) : moreK (r.map fun x => (x, m)) = dct r ((List.replicate r.length m).map V.int) := by
  induction r with
  | nil => rfl
  | cons x r ih =>
    show (Sum.inr x, V.int m) :: moreK (r.map fun x => (x, m)) = _
    rw [ih]
    rfl
theorem take_rep {α : Type} (r : List α) (m : Int) {i : Nat} (h : i < r.length) : (List.replicate (i + 1) m).map V.int = (List.replicate i m).map V.int ++ [.int m] := by
  rw [List.replicate_succ', List.map_append]
  rfl
section
variable {P : Program} {w : World} {K : PySem.W.Frag} {mg : Str → Option Value} {base : Heap}
/-! ### least_due -/
abbrev sLeD : Stmt := topS 34
abbrev nLeD : List Str := ["book", "ring", "who"]
theorem scLeD : FnScope nLeD ["book", "ring"] (defScope sLeD) := ⟨rfl, rfl, rfl, by decide +kernel, rfl, by decide +kernel, by decide +kernel⟩
def spLeD (K : PySem.W.Frag) (C : Addr) : Sp := fun vs H Q _ => ∃ (b a : Addr) (M : Bk) (r : List Str), vs = [.ref b, .ref a] ∧ BookAt K C H b M ∧ M.Ok ∧ H a = some (.lst (r.map V.str)) ∧ r ≠ [] ∧ r.length ≤ 12 ∧ (∀ y ∈ r, y ∈ M.names ∧ ∃ x, nxM M y = some x) ∧ ∀ H', Same H H' → Q (.int (leastI (r.map (amtAt M.names (duesM M))))) H'
theorem ok_leD {f f1 C : Addr} {fd fd1 : FuncData} (F : Fun K "least_due" "least_due" sLeD f fd) (B2 : Blt2 mg) (DU : Has P w K mg base 6 "due_of" ["book", "who"] (spDue K C) f1 fd1) : FnOk P w K mg base CX0 7 f fd ["book", "ring"] (spLeD K C) := by
  refine F.ok scLeD (fun vs H Q E h => ?_) (fun cdv A outer s H vs Q E hr h => ?_)
  · obtain ⟨_, _, _, _, rfl, _⟩ := h
    rfl
  · obtain ⟨b, a, M, r, rfl, hb, ok, ha, ne, lr, du, q⟩ := h
    refine ⟨_, pss_one (ps_ret (pe_callB (cr_min rfl) (by rfl) B2.min (by decide +kernel) (pa_cons
      (pe_lc (own := [("who", 2)]) (g := gName 2) (tt := tYes) rfl scLeD.nd (pi_list (pv 1)) (blkOk_by (N := nLeD) (sc := defScope sLeD) (own := [("who", 2)]) (by decide +kernel))
        (fun _ _ _ _ _ => pg_name (i := 2) scLeD.nd rfl (.inl rfl) (hf := .inr rfl)) (fun _ _ _ _ _ => pts_nil)
        (fun _ _ _ _ _ => pe_ix (ix_tupS (K := K) rfl) (pe_call DU.ok hr (by rfl) DU.g DU.kp DU.b .nil pass0 (pa_cons (pv 0) (pa_cons (pv 2) pa_nil))) pe_int (fun _ _ => rfl))) pa_nil))), ?_⟩
    refine ⟨.ref a, rfl, a, rfl, ⟨_, .inl (.inl ha)⟩, fun D0 nD0 => ?_⟩
    refine lc_it (walk_list (K := K) (a := a) (xs := r.map V.str)) (fun i H' => Same H H' ∧ H' D0 = some (.lst (((r.take i).map (amtAt M.names (duesM M))).map V.int))) ⟨same_upd nD0, upd_same⟩ (fun i H' _ hP => .inl (.inl (hP.1 _ _ ha)))
      (fun i x H1' H1 hi hP hY => ?_) (fun H1 hP => ?_)
    · obtain ⟨rfl, hx⟩ := hY
      rw [List.length_map] at hi
      have exx : x = .str r[i] := by
        rw [List.getElem?_map, List.getElem?_eq_getElem hi] at hx
        exact (Option.some.inj hx).symm
      subst exx
      obtain ⟨hy, x2, hx2⟩ := du _ (List.getElem_mem hi)
      refine ⟨rfl, .ref b, rfl, _, rfl, b, M, _, _, rfl, book_same hb hP.1, ok, idx_get hy, fun v H2 s2 dv => ?_⟩
      have hx3 : ((duesM M).getD (M.names.idxOf r[i]) none).map (·.1) = some x2 := hx2
      rcases due_inv dv with ⟨eo, _⟩ | ⟨n, ta, eo, rfl, qt⟩
      · rw [eo] at hx3
        cases hx3
      · have ea : amtAt M.names (duesM M) r[i] = n.2 := by
          unfold amtAt
          rw [eo]
        refine ⟨ta, _, 1, .int n.2, rfl, rfl, qt, rfl, _, s2 _ _ hP.2, ?_, fun c o ec => ?_, ?_⟩
        · rw [List.length_map, List.length_map, List.length_take]
          exact small1000 (by omega)
        · rw [upd_ne (ne_of_none ec nD0)]
          exact s2 _ _ (hP.1 c o ec)
        · rw [upd_same, take_succ hi, List.map_append, List.map_append, ← ea]
          rfl
    · obtain ⟨s1, hD0⟩ := hP
      rw [List.length_map, List.take_length] at hD0
      refine ⟨D0, _, rfl, .inl (.inl hD0), ?_, fun mn h1 h2 => ?_⟩
      · rw [List.length_map]
        exact List.length_pos_iff.mpr ne
      · rw [least_uniq h1 h2]
        exact q H1 s1
/-! ### clear_ring -/
abbrev sClR : Stmt := topS 39
abbrev nClR : List Str := ["book", "who", "amount", "ring", "most", "name"]
theorem scClR : FnScope nClR ["book", "who", "amount"] (defScope sClR) := ⟨rfl, rfl, rfl, by decide +kernel, rfl, by decide +kernel, by decide +kernel⟩
def spClR (K : PySem.W.Frag) (C : Addr) : Sp := fun vs H Q _ => ∃ (b : Addr) (M : Bk) (z : Str) (m : Int) (r : List Str), vs = [.ref b, .str z, .int m] ∧ BookAt K C H b M ∧ ClearOk M z m r ∧ ∀ b' H', Same H H' → H b' = none → BookAt K C H' b' (fallM M (r.map fun x => (x, m))) → Q (.ref b') H'
theorem ok_clR {f f1 f2 f3 f4 C : Addr} {fd fd1 fd2 fd3 fd4 : FuncData} (F : Fun K "clear_ring" "clear_ring" sClR f fd) (T : ClsF K C) (RO : Has P w K mg base 8 "ring_of" ["book", "who"] (spRgO K C) f1 fd1) (CA : Has P w K mg base 3 "check_amount" ["amount"] (spCheckA K) f2 fd2)
    (LD : Has P w K mg base 7 "least_due" ["book", "ring"] (spLeD K C) f3 fd3) (LF : HasM P w K mg base C 7 "let_fall" ["self", "more"] (spLetF K C) f4 fd4) : FnOk P w K mg base CX0 9 f fd ["book", "who", "amount"] (spClR K C) := by
  refine F.ok scClR (fun vs H Q E h => ?_) (fun cdv A outer s H vs Q E hr h => ?_)
  · obtain ⟨_, _, _, _, _, rfl, _⟩ := h
    rfl
  · obtain ⟨b, M, z, m, r, rfl, hb, co, q⟩ := h
    have hr3 := hr.mono (show 3 ≤ 8 by decide)
    have hr7 := hr.mono (show 7 ≤ 8 by decide)
    refine ⟨_, pss_cons (ps_set (i := 3) scClR.nd rfl (.inl rfl) (pe_call RO.ok hr (by rfl) RO.g RO.kp RO.b .nil pass0 (pa_cons (pv 0) (pa_cons (pv 1) pa_nil))))
      (pss_cons (ps_expr (pe_call CA.ok hr3 (by rfl) CA.g CA.kp CA.b .nil pass0 (pa_cons (pv 2) pa_nil)))
      (pss_cons (ps_if (pt_cmpR op_isN (pv 3) pe_non (nomark _)) pss_never pss_nil)
      (pss_cons (ps_set (i := 4) scClR.nd rfl (.inl rfl) (pe_call LD.ok hr7 (by rfl) LD.g LD.kp LD.b .nil pass0 (pa_cons (pv 0) (pa_cons (pv 3) pa_nil))))
      (pss_cons (ps_if (pt_cmpR op_gt (pv 2) (pv 4) (nomark _)) pss_never pss_nil)
      (pss_one (ps_ret (pe_meth (pv 0) T.cl LF.m LF.ok hr7 LF.b .nil pass0 (pa_cons
        (pe_dc (own := [("name", 5)]) (g := gName 5) (tt := tYes) rfl scClR.nd (pi_list (pv 3)) (blkOk_by (N := nClR) (sc := defScope sClR) (own := [("name", 5)]) (by decide +kernel))
          (fun _ _ _ _ _ => pg_name (i := 5) scClR.nd rfl (.inl rfl) (hf := .inr rfl)) (fun _ _ _ _ _ => pts_nil) (fun _ _ _ _ _ => pv 5) (fun _ _ _ _ _ => pv 2)) pa_nil)))))))), ?_⟩
    obtain ⟨h1, h2, h3⟩ := ring_least co.ok co.cl co.hz co.ring
    refine ⟨.ref b, rfl, .str z, rfl, b, M, z, rfl, hb, co.ok, co.cl, co.hz, fun v H1 s1 rv => ?_⟩
    rw [co.ring] at rv
    obtain ⟨a, rfl, na, ha⟩ := rv
    refine ⟨.int m, rfl, m, rfl, co.m1, fun H2 s2 => ⟨.ref a, rfl, rfl, _, rfl, ?_⟩⟩
    rw [decide_eq_false (fun c => by cases c)]
    have s12 := s1.trans s2
    have ha2 := s2 _ _ ha
    refine iteF ⟨.ref b, rfl, .ref a, rfl, b, a, M, r, rfl, book_same hb s12, co.ok, ha2, h1, h2, h3, fun H3 s3 => ⟨.int m, rfl, _, rfl, _, _, rfl, rfl, _, rfl, ?_⟩⟩
    rw [show decide (leastI (r.map (amtAt M.names (duesM M))) < m) = false from decide_eq_false (by have := co.most; omega)]
    have s13 := s12.trans s3
    have ha3 := s3 _ _ ha2
    have hb3 := book_same hb s13
    obtain ⟨dx, tn, on, wg, ws, wd, e, _⟩ := hb3.ex
    refine iteF ⟨.ref b, rfl, b, dx, _, rfl, e, bf_no (NoF.mk' (by decide +kernel)), .ref a, rfl, a, rfl, ⟨_, .inl (.inl ha3)⟩, fun D0 nD0 => ?_⟩
    refine out_it (walk_list (K := K) (a := a) (xs := r.map V.str)) (fun i H' => Same H3 H' ∧ H' D0 = some (.dK (dct (r.take i) ((List.replicate i m).map V.int)))) ⟨same_upd nD0, upd_same⟩ (fun i H' _ hP => .inl (.inl (hP.1 _ _ ha3)))
      (fun i x H4' H4 hi hP hY => ?_) (fun H4 hP => ?_)
    · obtain ⟨rfl, hx⟩ := hY
      obtain ⟨s4, hD⟩ := hP
      rw [List.length_map] at hi
      have exx : x = .str r[i] := by
        rw [List.getElem?_map, List.getElem?_eq_getElem hi] at hx
        exact (Option.some.inj hx).symm
      subst exx
      have lrep : ((List.replicate i m).map V.int).length = (r.take i).length := by
        rw [List.length_map, List.length_replicate, List.length_take]
        omega
      refine ⟨rfl, _, rfl, _, rfl, _, Sum.inr r[i], rfl, hD, ?_, fun c o ec => ?_, ?_⟩
      · rw [dct_len lrep, List.length_take]
        exact small1000 (by omega)
      · rw [upd_ne (ne_of_none ec nD0)]
        exact s4 c o ec
      · have no : ∀ kv ∈ dct (r.take i) ((List.replicate i m).map V.int), ¬ kv.1 = (Sum.inr r[i] : Key) := dct_nokey fun z => by
          obtain ⟨j, hj, e'⟩ := List.getElem_of_mem z
          rw [List.length_take] at hj
          rw [List.getElem_take] at e'
          have := (List.getElem_inj co.nd).mp e'
          omega
        rw [upd_same, put_new no, ← dct_snoc lrep, ← take_succ hi, ← take_rep r m hi]
    · obtain ⟨s4, hD⟩ := hP
      rw [List.length_map, List.take_length, ← moreK_dct] at hD
      have s14 := s13.trans s4
      exact ⟨b, D0, M, _, rfl, book_same hb s14, co.ok, hD, co.fo, fun b' H5 s5 nb hb5 => q b' H5 (s14.trans s5) (s14.free nb) hb5⟩
/-! ### stepped, a clear -/
def spStC (K : PySem.W.Frag) (C : Addr) : Sp := fun vs H Q _ => ∃ (b t : Addr) (M : Bk) (z : Str) (m : Int) (r : List Str), vs = [.ref b, .ref t] ∧ H t = some (.tup [.str "clear", .str z, .int m]) ∧ BookAt K C H b M ∧ ClearOk M z m r ∧
  ∀ b' H', Same H H' → H b' = none → BookAt K C H' b' (fallM M (r.map fun x => (x, m))) → Q (.ref b') H'
theorem ok_stC {f f1 fp fc C : Addr} {fd fd1 fdc : FuncData} (F : Fun K "stepped" "stepped" sStp f fd) (TB : TabAt K w mg "ACTIONS" fp fc) (IS : Has P w K mg base 1 "is_step" ["thing"] (spIsS K) f1 fd1) (CR : Has P w K mg base 9 "clear_ring" ["book", "who", "amount"] (spClR K C) fc fdc) :
    FnOk P w K mg base CX0 10 f fd ["book", "step"] (spStC K C) := by
  obtain ⟨d, es, n, gd, KD, np, nc⟩ := TB.ex
  refine F.ok scStp (fun vs H Q E h => ?_) (fun cdv A outer s H vs Q E hr h => ?_)
  · obtain ⟨_, _, _, _, _, _, rfl, _⟩ := h
    rfl
  · obtain ⟨b, t, M, z, m, r, rfl, ht, hb, co, q⟩ := h
    refine ⟨_, pss_cons (ps_if (pt_not (pt_val (pe_call IS.ok (hr.mono (by decide)) (by rfl) IS.g IS.kp IS.b .nil pass0 (pa_cons (pv 1) pa_nil)))) pss_never pss_nil)
      (pss_cons (ps_asg (pv 1) (pg_tup rfl (pgs_cons (pg_name (i := 2) scStp.nd rfl (.inl rfl)) (pgs_cons (pg_name (i := 3) scStp.nd rfl (.inl rfl)) (pgs_cons (pg_name (i := 4) scStp.nd rfl (.inl rfl)) pgs_nil)))))
      (pss_cons (ps_set (i := 5) scStp.nd rfl (.inl rfl) (pe_ix ix_kdict (pe_glob (v := .ref d) (by rfl) gd rfl) (pv 2) (fun _ _ => rfl)))
      (pss_one (ps_ret (pe_callL (i := 5) (f := fc) CR.ok hr rfl (.inl rfl) CR.kp CR.b .nil pass0 (pa_cons (pv 0) (pa_cons (pv 3) (pa_cons (pv 4) pa_nil)))))))), ?_⟩
    refine ⟨.ref t, rfl, t, "clear", _, _, rfl, ht, .inr rfl, fun H1 s1 => ⟨_, rfl, iteF ?_⟩⟩
    refine ⟨.ref t, rfl, t, _, rfl, .inl (.inl (s1 _ _ ht)), rfl, _, _, rfl, _, _, rfl, _, _, rfl, rfl, ?_⟩
    refine ⟨.str "clear", rfl, d, _, .ref fc, rfl, rfl, ⟨es, n, _, KD.at_, KD.lit, nc, rfl⟩, rfl, .ref b, rfl, .str z, rfl, .int m, rfl, b, M, z, m, r, rfl, book_same hb s1, co, fun b' H2 s2 nb hb2 => ?_⟩
    exact q b' H2 (s1.trans s2) (s1.free nb) hb2
end
end Rc

namespace Rc
open PySem PySem.Spec PyProof.Rows L2 RZ
section
variable {P : Program} {w : World} {K : PySem.W.Frag} {mg : Str → Option Value} {base : Heap}
/-! ### most_to_clear, most_of by the word clear -/
abbrev sMtC : Stmt := topS 35
theorem scMtC : FnScope ["book", "who", "ring"] ["book", "who"] (defScope sMtC) := ⟨rfl, rfl, rfl, by decide +kernel, rfl, by decide +kernel, by decide +kernel⟩
def spMtC (K : PySem.W.Frag) (C : Addr) : Sp := fun vs H Q _ => ∃ (b : Addr) (M : Bk) (z : Str), vs = [.ref b, .str z] ∧ BookAt K C H b M ∧ M.Ok ∧ Closed M ∧ z ∈ M.names ∧ ∀ H', Same H H' → Q (.int (mostC M.names (duesM M) z)) H'
theorem ok_mtC {f f1 f2 C : Addr} {fd fd1 fd2 : FuncData} (F : Fun K "most_to_clear" "most_to_clear" sMtC f fd) (RO : Has P w K mg base 8 "ring_of" ["book", "who"] (spRgO K C) f1 fd1) (LD : Has P w K mg base 7 "least_due" ["book", "ring"] (spLeD K C) f2 fd2) :
    FnOk P w K mg base CX0 9 f fd ["book", "who"] (spMtC K C) := by
  refine F.ok scMtC (fun vs H Q E h => ?_) (fun cdv A outer s H vs Q E hr h => ?_)
  · obtain ⟨_, _, _, rfl, _⟩ := h
    rfl
  · obtain ⟨b, M, z, rfl, hb, ok, cl, hz, q⟩ := h
    refine ⟨_, pss_cons (ps_set (i := 2) scMtC.nd rfl (.inl rfl) (pe_call RO.ok hr (by rfl) RO.g RO.kp RO.b .nil pass0 (pa_cons (pv 0) (pa_cons (pv 1) pa_nil))))
      (pss_one (ps_ret (pe_ifExp (pt_cmpR op_isN (pv 2) pe_non (nomark _)) pe_int (pe_call LD.ok (hr.mono (by decide)) (by rfl) LD.g LD.kp LD.b .nil pass0 (pa_cons (pv 0) (pa_cons (pv 2) pa_nil)))))), ?_⟩
    refine ⟨.ref b, rfl, .str z, rfl, b, M, z, rfl, hb, ok, cl, hz, fun v H1 s1 rv => ?_⟩
    cases hR : ringM M.names (nxM M) z with
    | none =>
      rw [hR] at rv
      rw [mostC_none hR] at q
      have ev : v = .non := rv
      subst ev
      refine ⟨.non, rfl, rfl, _, rfl, ?_⟩
      rw [decide_eq_true rfl]
      exact iteT (q H1 s1)
    | some r =>
      obtain ⟨h1, h2, h3⟩ := ring_least ok cl hz hR
      rw [hR] at rv
      rw [mostC_some hR] at q
      obtain ⟨a, rfl, na, ha⟩ := rv
      refine ⟨.ref a, rfl, rfl, _, rfl, ?_⟩
      rw [decide_eq_false (fun c => by cases c)]
      exact iteF ⟨.ref b, rfl, .ref a, rfl, b, a, M, r, rfl, book_same hb s1, ok, ha, h1, h2, h3, fun H2 s2 => q H2 (s1.trans s2)⟩
def spMoC (K : PySem.W.Frag) (C : Addr) : Sp := fun vs H Q _ => ∃ (b : Addr) (M : Bk) (z : Str), vs = [.ref b, .str z, .str "clear"] ∧ BookAt K C H b M ∧ M.Ok ∧ Closed M ∧ z ∈ M.names ∧ ∀ H', Same H H' → Q (.int (mostC M.names (duesM M) z)) H'
theorem ok_moC {f fp fc C : Addr} {fd fdc : FuncData} (F : Fun K "most_of" "most_of" sMoO f fd) (TB : TabAt K w mg "MOSTS" fp fc) (MC : Has P w K mg base 9 "most_to_clear" ["book", "who"] (spMtC K C) fc fdc) :
    FnOk P w K mg base CX0 10 f fd ["book", "who", "word"] (spMoC K C) := by
  obtain ⟨d, es, n, gd, KD, np, nc⟩ := TB.ex
  refine F.ok scMoO (fun vs H Q E h => ?_) (fun cdv A outer s H vs Q E hr h => ?_)
  · obtain ⟨_, _, _, rfl, _⟩ := h
    rfl
  · obtain ⟨b, M, z, rfl, hb, ok, cl, hz, q⟩ := h
    refine ⟨_, pss_cons (ps_set (i := 3) scMoO.nd rfl (.inl rfl) (pe_ix ix_kdict (pe_glob (v := .ref d) (by rfl) gd rfl) (pv 2) (fun _ _ => rfl)))
      (pss_one (ps_ret (pe_callL (i := 3) (f := fc) MC.ok hr rfl (.inl rfl) MC.kp MC.b .nil pass0 (pa_cons (pv 0) (pa_cons (pv 1) pa_nil))))), ?_⟩
    exact ⟨.str "clear", rfl, d, _, .ref fc, rfl, rfl, ⟨es, n, _, KD.at_, KD.lit, nc, rfl⟩, rfl, .ref b, rfl, .str z, rfl, b, M, z, rfl, hb, ok, cl, hz, q⟩
end
end Rc

namespace Rc
open PySem PySem.Spec PyProof.Rows L2 RZ
theorem stepW_inv {K : PySem.W.Frag} {H : Hp} {v : V} {n : Str × Str} (h : Dt K H v (stepW n)) : ∃ a, v = .ref a ∧ SqT K H a [.str n.1, .str n.2] := by
  obtain ⟨a, xs, rfl, q, d⟩ := h.tup_inv
  cases d with
  | cons d1 d2 =>
    cases d1
    cases d2 with
    | cons d3 d4 =>
      cases d3
      cases d4
      exact ⟨a, rfl, q⟩
theorem butD_kp {H H' : Hp} {x : Addr} {kvs : List (Key × V)} (b : But x H H') (h : H x = some (.dK kvs)) : Kp H H' := fun c o e f => b c o (fun z => by
  rw [z, h] at e
  cases e
  exact f) e
def kindOf (W : List (Str × Str)) (k : Str) : List Str := (W.filter fun p => decide (p.1 = k)).map (·.2)
theorem kind_mem {zs : List Str} {D : Md} {k z : Str} (h : z ∈ kindOf (stepsW zs D) k) : z ∈ zs ∧ 0 < mostW zs D k z := by
  unfold kindOf at h
  obtain ⟨p, hp, rfl⟩ := List.mem_map.mp h
  obtain ⟨h1, h2⟩ := List.mem_filter.mp hp
  unfold stepsW at h1
  obtain ⟨y, hy, h3⟩ := List.mem_flatMap.mp h1
  unfold stepsAt at h3
  obtain ⟨q, hq, rfl⟩ := List.mem_map.mp h3
  obtain ⟨_, h4⟩ := List.mem_filter.mp hq
  have h2' : q = k := of_decide_eq_true h2
  subst h2'
  exact ⟨hy, of_decide_eq_true h4⟩
theorem mem_kind {zs : List Str} {D : Md} {k z : Str} (hk : k ∈ kindsW) (h : z ∈ zs) (h0 : 0 < mostW zs D k z) : z ∈ kindOf (stepsW zs D) k := by
  unfold kindOf stepsW stepsAt
  exact List.mem_map.mpr ⟨(k, z), List.mem_filter.mpr ⟨List.mem_flatMap.mpr ⟨z, h, List.mem_map.mpr ⟨k, List.mem_filter.mpr ⟨hk, decide_eq_true h0⟩, rfl⟩⟩, decide_eq_true rfl⟩, rfl⟩
theorem steps_le (zs : List Str) (D : Md) : ∀ l : List Str, (l.flatMap (stepsAt zs D)).length ≤ 2 * l.length
  | [] => Nat.le_refl _
  | z :: r => by
    rw [List.flatMap_cons, List.length_append, List.length_cons]
    have := steps_le zs D r
    have := steps_len zs D z
    omega
/-! ### who stands in a round -/
def rd (as : List Str) (i : Nat) : Str := as.getD (i % as.length) Str.empty
def Round (nx : Str → Option Str) (as : List Str) : Prop := ∀ i, nx (rd as i) = some (rd as (i + 1))
theorem rd_at {as : List Str} {i : Nat} (h : i < as.length) : as[i]? = some (rd as i) := by
  unfold rd
  rw [Nat.mod_eq_of_lt h, List.getD_eq_getElem?_getD, List.getElem?_eq_getElem h]
  rfl
theorem rd_mem {as : List Str} (h : 0 < as.length) (i : Nat) : rd as i ∈ as := by
  have hl := Nat.mod_lt i h
  unfold rd
  rw [List.getD_eq_getElem?_getD, List.getElem?_eq_getElem hl]
  exact List.getElem_mem hl
theorem round_at {nx : Str → Option Str} {as T : List Str} (hr : Round nx as) (h0 : T[0]? = some (rd as 0)) (ch : Chain nx T) : ∀ i, i < T.length → T[i]? = some (rd as i)
  | 0, _ => h0
  | i + 1, h => by
    have ih := round_at hr h0 ch i (by omega)
    have e1 := List.getElem?_eq_getElem h
    have := ch i _ _ ih e1
    rw [hr i] at this
    rw [e1, ← Option.some.inj this]
theorem round_ring {zs : List Str} {nx : Str → Option Str} {as : List Str} (ld : Leads zs nx) (nd : as.Nodup) (h0 : 0 < as.length) (hz : rd as 0 ∈ zs) (hr : Round nx as) : ∃ r, ringM zs nx (rd as 0) = some r := by
  have en := trail_ended ld hz
  have ch := trailM_chain zs nx (rd as 0)
  obtain ⟨tl, eT⟩ := en.first
  obtain ⟨ini, y, eT2, ed⟩ := en.last
  have eL := lastM_eq eT2
  have hT := round_at (T := trailM zs nx (rd as 0)) hr (by rw [eT]; rfl) ch
  have nT := en.nd
  have bk := en.back
  have lT : (trailM zs nx (rd as 0)).length = ini.length + 1 := by rw [eT2, List.length_append]; rfl
  have hy : y = rd as ini.length := by
    have := hT ini.length (by omega)
    rw [eT2, List.getElem?_append_right (Nat.le_refl _), Nat.sub_self] at this
    exact Option.some.inj this
  have hle : ini.length + 1 ≤ as.length := Decidable.byContradiction fun c => by
    have h1 := hT as.length (by omega)
    have h2 := hT 0 (by omega)
    have e : rd as as.length = rd as 0 := by
      unfold rd
      rw [Nat.mod_self, Nat.zero_mod]
    rw [e, ← h2] at h1
    have := (List.getElem?_inj (by omega) nT).mp h1
    omega
  have hb : rd as (ini.length + 1) ∈ trailM zs nx (rd as 0) := by
    refine bk _ ?_
    rw [eL, hy]
    exact hr _
  have hfull : ini.length + 1 = as.length := Decidable.byContradiction fun c => by
    obtain ⟨i, hi, e⟩ := List.getElem_of_mem hb
    have h1 := hT i hi
    rw [List.getElem?_eq_getElem hi, e] at h1
    have h2 := rd_at (as := as) (i := ini.length + 1) (by omega)
    have h3 := rd_at (as := as) (i := i) (by omega)
    rw [Option.some.inj h1, ← h3] at h2
    have := (List.getElem?_inj (by omega) nd).mp h2
    omega
  have e0 : nx (lastM zs nx (rd as 0)) = some (rd as 0) := by
    rw [eL, hy, hr, hfull]
    congr 1
    unfold rd
    rw [Nat.mod_self, Nat.zero_mod]
  unfold ringM
  rw [if_pos e0]
  exact ⟨_, rfl⟩
theorem ring_pos {zs : List Str} {D : Md} {z : Str} {r : List Str} (g : Gs zs D) (hz : z ∈ zs) (hR : ringM zs (nxD zs D) z = some r) : 0 < mostW zs D "clear" z ∧ mostW zs D "clear" z ≤ 10 ^ 58 ∧ mostW zs D "clear" z = leastI (r.map (amtAt zs (duesM (bkOf zs D)))) := by
  have wk := g.walks
  obtain ⟨_, _, _, ne⟩ := ring_perm wk.ld hz hR
  have rdu := ring_due wk.ld hz hR
  have em : mostW zs D "clear" z = leastI (r.map (amtAt zs (duesM (bkOf zs D)))) := by
    unfold mostW
    rw [if_neg (fun c => pay_ne_clear (congrArg V.str c.symm).symm)]
    exact mostC_some hR
  have ne2 : r.map (amtAt zs (duesM (bkOf zs D))) ≠ [] := by simpa using ne
  obtain ⟨hm, _⟩ := least_mem ne2
  obtain ⟨x, hx, ex⟩ := List.mem_map.mp hm
  obtain ⟨hxz, t, ht⟩ := rdu x hx
  have ht2 : ((duesM (bkOf zs D)).getD (zs.idxOf x) none).map (·.1) = some t := ht
  have ha : 1 ≤ amtAt zs (duesM (bkOf zs D)) x ∧ amtAt zs (duesM (bkOf zs D)) x ≤ 10 ^ 58 := by
    cases h : (duesM (bkOf zs D)).getD (zs.idxOf x) none with
    | none =>
      rw [h] at ht2
      cases ht2
    | some n =>
      have gn : 1 ≤ n.2 ∧ n.2 ≤ 10 ^ 58 := (g.due (getD_mem h)).2
      have ea : amtAt zs (duesM (bkOf zs D)) x = n.2 := by
        unfold amtAt
        rw [h]
      rw [ea]
      exact gn
  rw [ex] at ha
  rw [em]
  exact ⟨by omega, ha.2, rfl⟩
/-! ### the first notes -/
def noteAt (zs : List Str) (j : Nat) : Deed → Option (Str × Int)
  | .give _ _ => none
  | .put z y n => if zs.idxOf z = j then some (y, n) else none
theorem notes_fold (zs : List Str) (j : Nat) : ∀ (ds : List Deed) (D : Md) (l : List (Str × Int)), D.notes[j]? = some l → (ds.foldl (doneD zs) D).notes[j]? = some (l ++ ds.filterMap (noteAt zs j))
  | [], D, l, h => by
    rw [List.filterMap_nil, List.append_nil]
    exact h
  | d :: r, D, l, h => by
    rw [List.foldl_cons]
    cases d with
    | give z n =>
      rw [notes_fold zs j r _ l (by exact h), List.filterMap_cons]
      rfl
    | put z y n =>
      by_cases hj : zs.idxOf z = j
      · have e : (doneD zs D (.put z y n)).notes[j]? = some (l ++ [(y, n)]) := by
          show (D.notes.set (zs.idxOf z) (D.notes.getD (zs.idxOf z) [] ++ [(y, n)]))[j]? = _
          rw [hj, List.getElem?_set_self (List.getElem?_eq_some_iff.mp h).1, getD_of h]
        rw [notes_fold zs j r _ _ e, List.filterMap_cons]
        have en : noteAt zs j (.put z y n) = some (y, n) := if_pos hj
        rw [en, List.append_assoc]
        rfl
      · have e : (doneD zs D (.put z y n)).notes[j]? = some l := by
          show (D.notes.set (zs.idxOf z) (D.notes.getD (zs.idxOf z) [] ++ [(y, n)]))[j]? = _
          rw [List.getElem?_set_ne hj]
          exact h
        rw [notes_fold zs j r _ _ e, List.filterMap_cons]
        have en : noteAt zs j (.put z y n) = none := if_neg hj
        rw [en]
/-- the first deeds: each puts a note to the next one -/
def roundDs (as : List Str) (ns : List Int) : List Deed := (List.range ns.length).map fun i => .put (rd as i) (rd as (i + 1)) (ns.getD i 0)
theorem roundDs_snoc (as : List Str) (ns : List Int) (n : Int) : roundDs as (ns ++ [n]) = roundDs as ns ++ [.put (rd as ns.length) (rd as (ns.length + 1)) n] := by
  unfold roundDs
  rw [List.length_append, show [n].length = 1 from rfl, List.range_succ, List.map_append]
  congr 1
  · refine List.map_congr_left fun i hi => ?_
    have hi' := List.mem_range.mp hi
    rw [List.getD_eq_getElem?_getD, List.getElem?_append_left hi', List.getD_eq_getElem?_getD]
  · show [Deed.put _ _ ((ns ++ [n]).getD ns.length 0)] = _
    rw [List.getD_eq_getElem?_getD, List.getElem?_append_right (Nat.le_refl _), Nat.sub_self]
    rfl
theorem idx_inj {zs : List Str} {x y : Str} (hx : x ∈ zs) (hy : y ∈ zs) (h : zs.idxOf x = zs.idxOf y) : x = y := by
  have e1 := idx_get hx
  rw [h, idx_get hy] at e1
  exact (Option.some.inj e1).symm
theorem rd_inj {as : List Str} (nd : as.Nodup) {i k : Nat} (hk : k < as.length) (h : rd as k = rd as i) : k = i % as.length := by
  have hl := Nat.mod_lt i (show 0 < as.length by omega)
  have e1 := rd_at hk
  have e2 := rd_at hl
  have e3 : rd as (i % as.length) = rd as i := by
    unfold rd
    rw [Nat.mod_mod]
  rw [e3, ← h, ← e1] at e2
  exact ((List.getElem?_inj hl nd).mp e2).symm
theorem round_md {zs as : List Str} {ns : List Int} {rest : List Deed} (nz : NamesOk zs) (nd : as.Nodup) (sub : ∀ y ∈ as, y ∈ zs) (h0 : 0 < as.length) (ln : ns.length = as.length) {k : Nat} (gd : Gd zs (mdAt zs (roundDs as ns ++ rest)) k) : Round (nxD zs (mdAt zs (roundDs as ns ++ rest))) as := fun i => by
  have hm := sub _ (rd_mem h0 i)
  have hj : zs.idxOf (rd as i) < zs.length := List.idxOf_lt_length_of_mem hm
  have e0 : (newMd zs.length).notes[zs.idxOf (rd as i)]? = some [] := by
    show (List.replicate zs.length [])[_]? = _
    rw [List.getElem?_replicate, if_pos hj]
  have el : (mdAt zs (roundDs as ns ++ rest)).notes[zs.idxOf (rd as i)]? = _ := notes_fold zs (zs.idxOf (rd as i)) (roundDs as ns ++ rest) _ _ e0
  rw [List.nil_append, List.filterMap_append] at el
  have ef : (mdAt zs (roundDs as ns ++ rest)).fallen[zs.idxOf (rd as i)]? = some 0 := by
    rw [gd.zf]
    show (List.replicate zs.length 0)[_]? = _
    rw [List.getElem?_replicate, if_pos hj]
  rw [nxD_at nz.nd (idx_get hm) el ef, left_zero fun n hn => (gd.nt _ (List.mem_of_getElem? el) n hn).2.1]
  have all : ∀ n ∈ (roundDs as ns).filterMap (noteAt zs (zs.idxOf (rd as i))), n.1 = rd as (i + 1) := fun n hn => by
    obtain ⟨d, hd, e⟩ := List.mem_filterMap.mp hn
    unfold roundDs at hd
    obtain ⟨k', hk', rfl⟩ := List.mem_map.mp hd
    have hk2 := List.mem_range.mp hk'
    have e' : (if zs.idxOf (rd as k') = zs.idxOf (rd as i) then some (rd as (k' + 1), ns.getD k' 0) else none) = some n := e
    split at e'
    · rename_i hc
      have := rd_inj nd (by omega) (idx_inj (sub _ (rd_mem h0 k')) hm hc)
      rw [← Option.some.inj e', this]
      show rd as (i % as.length + 1) = _
      unfold rd
      rw [Nat.mod_add_mod]
    · cases e'
  have hne : (roundDs as ns).filterMap (noteAt zs (zs.idxOf (rd as i))) ≠ [] := fun c => by
    have hl := Nat.mod_lt i h0
    have e3 : rd as (i % as.length) = rd as i := by
      unfold rd
      rw [Nat.mod_mod]
    have hm2 : (rd as (i % as.length + 1), ns.getD (i % as.length) 0) ∈ (roundDs as ns).filterMap (noteAt zs (zs.idxOf (rd as i))) := by
      refine List.mem_filterMap.mpr ⟨.put (rd as (i % as.length)) (rd as (i % as.length + 1)) (ns.getD (i % as.length) 0), ?_, if_pos (by rw [e3])⟩
      unfold roundDs
      exact List.mem_map.mpr ⟨i % as.length, List.mem_range.mpr (by omega), rfl⟩
    rw [c] at hm2
    cases hm2
  cases h : (roundDs as ns).filterMap (noteAt zs (zs.idxOf (rd as i))) with
  | nil => exact absurd h hne
  | cons n r =>
    show some n.1 = _
    rw [all n (by rw [h]; exact List.mem_cons_self)]
end Rc

namespace Rc
open PySem PySem.Spec PyProof.Rows L2 RZ
/-! ### the settled one is the greatest -/
theorem part_mono {a f g : Int} (h : f ≤ g) : partOf a f ≤ partOf a g ∧ f - partOf a f ≤ g - partOf a g := by
  unfold partOf
  constructor <;> (repeat' split) <;> omega
theorem sumTo_gone (y t : Str) (a f : Int) (r : List (Str × Int)) (h : 0 ≤ partOf a f) : sumTo y (goneN ((t, a) :: r) f) = (if t = y then partOf a f else 0) + sumTo y (goneN r (f - partOf a f)) := by
  rw [goneN_cons, sumTo_app, sumTo_one y t _ h]
theorem part_nonneg {a f : Int} (ha : 1 ≤ a) (hf : 0 ≤ f) : 0 ≤ partOf a f ∧ 0 ≤ f - partOf a f := by
  unfold partOf
  constructor <;> (repeat' split) <;> omega
theorem gone_mono (y : Str) : ∀ {l : List (Str × Int)} {f g : Int}, (∀ n ∈ l, 1 ≤ n.2) → 0 ≤ f → f ≤ g → sumTo y (goneN l f) ≤ sumTo y (goneN l g)
  | [], _, _, _, _, _ => Int.le_refl _
  | (t, a) :: r, f, g, hn, hf, hg => by
    have ha : 1 ≤ a := hn (t, a) List.mem_cons_self
    obtain ⟨p1, p2⟩ := part_nonneg ha hf
    obtain ⟨q1, q2⟩ := part_nonneg ha (show 0 ≤ g by omega)
    obtain ⟨m1, m2⟩ := part_mono (a := a) hg
    rw [sumTo_gone y t a f r p1, sumTo_gone y t a g r q1]
    have ih := gone_mono y (l := r) (fun n hn' => hn n (List.mem_cons_of_mem _ hn')) p2 m2
    split <;> omega
/-- a sum over some persons -/
def sumOn (S : List Str) (h : Str → Int) : Int := (S.map h).sum
theorem sumOn_add (S : List Str) (h k : Str → Int) : sumOn S (fun y => h y + k y) = sumOn S h + sumOn S k := by
  induction S with
  | nil => rfl
  | cons y r ih =>
    unfold sumOn at ih ⊢
    simp only [List.map_cons, List.sum_cons]
    omega
theorem sumOn_le {S : List Str} {h k : Str → Int} (hh : ∀ y ∈ S, h y ≤ k y) : sumOn S h ≤ sumOn S k := by
  induction S with
  | nil => exact Int.le_refl _
  | cons y r ih =>
    have h1 := hh y List.mem_cons_self
    have h2 := ih fun z hz => hh z (List.mem_cons_of_mem _ hz)
    unfold sumOn at h2 ⊢
    simp only [List.map_cons, List.sum_cons]
    omega
theorem sumOn_one {S : List Str} (nd : S.Nodup) (t : Str) {m : Int} (h : 0 ≤ m) : sumOn S (fun y => if t = y then m else 0) ≤ m ∧ (t ∉ S → sumOn S (fun y => if t = y then m else 0) = 0) := by
  induction S with
  | nil => exact ⟨h, fun _ => rfl⟩
  | cons y r ih =>
    obtain ⟨n1, n2⟩ := List.nodup_cons.mp nd
    obtain ⟨i1, i2⟩ := ih n2
    unfold sumOn at i1 i2 ⊢
    simp only [List.map_cons, List.sum_cons]
    by_cases e : t = y
    · subst e
      rw [if_pos rfl, i2 n1]
      exact ⟨by omega, fun c => absurd List.mem_cons_self c⟩
    · rw [if_neg e]
      exact ⟨by omega, fun c => by rw [i2 fun z => c (List.mem_cons_of_mem _ z)]; rfl⟩
theorem sumOn_congr {S : List Str} {h k : Str → Int} (hh : ∀ y ∈ S, h y = k y) : sumOn S h = sumOn S k :=
  Int.le_antisymm (sumOn_le fun y hy => Int.le_of_eq (hh y hy)) (sumOn_le fun y hy => Int.le_of_eq (hh y hy).symm)
/-- what more falls to some persons is no more than what more falls -/
theorem gone_on {S : List Str} (nd : S.Nodup) : ∀ {l : List (Str × Int)} {f g : Int}, (∀ n ∈ l, 1 ≤ n.2) → 0 ≤ f → f ≤ g → sumOn S (fun y => sumTo y (goneN l g) - sumTo y (goneN l f)) ≤ g - f
  | [], f, g, _, _, hg => by
    have : sumOn S (fun y => sumTo y (goneN [] g) - sumTo y (goneN [] f)) = sumOn S (fun _ => 0) := sumOn_congr fun y _ => by
      rw [goneN_nil, goneN_nil, sumTo_nil]
      rfl
    rw [this]
    have h0 : sumOn S (fun _ => 0) ≤ 0 := by
      have := (sumOn_one nd Str.empty (m := 0) (Int.le_refl _)).1
      have e : sumOn S (fun y => if Str.empty = y then (0 : Int) else 0) = sumOn S (fun _ => 0) := sumOn_congr fun y _ => by split <;> rfl
      omega
    omega
  | (t, a) :: r, f, g, hn, hf, hg => by
    have ha : 1 ≤ a := hn (t, a) List.mem_cons_self
    obtain ⟨p1, p2⟩ := part_nonneg ha hf
    obtain ⟨q1, q2⟩ := part_nonneg ha (show 0 ≤ g by omega)
    obtain ⟨m1, m2⟩ := part_mono (a := a) hg
    have ih := gone_on nd (l := r) (fun n hn' => hn n (List.mem_cons_of_mem _ hn')) p2 m2
    have e : sumOn S (fun y => sumTo y (goneN ((t, a) :: r) g) - sumTo y (goneN ((t, a) :: r) f)) = sumOn S (fun y => (if t = y then partOf a g - partOf a f else 0) + (sumTo y (goneN r (g - partOf a g)) - sumTo y (goneN r (f - partOf a f)))) := sumOn_congr fun y _ => by
      rw [sumTo_gone y t a f r p1, sumTo_gone y t a g r q1]
      split <;> omega
    rw [e, sumOn_add]
    have := (sumOn_one nd t (m := partOf a g - partOf a f) (by omega)).1
    omega
/-- less, where the due note is to none of them -/
theorem gone_less {S : List Str} (nd : S.Nodup) {l r : List (Str × Int)} {f g b : Int} {t : Str} (hn : ∀ n ∈ l, 1 ≤ n.2) (hf : 0 ≤ f) (hg : f < g) (e : leftN l f = (t, b) :: r) (b1 : 1 ≤ b) (ht : t ∉ S) :
    sumOn S (fun y => sumTo y (goneN l g) - sumTo y (goneN l f)) < g - f := by
  by_cases hb : b ≤ g - f
  · obtain ⟨_, h2⟩ := fall_one (m := b) hn hf (by omega) (Int.le_refl _) e
    have h3 := gone_on nd (l := l) (f := f + b) (g := g) hn (by omega) (by omega)
    have e2 : sumOn S (fun y => sumTo y (goneN l g) - sumTo y (goneN l f)) = sumOn S (fun y => sumTo y (goneN l g) - sumTo y (goneN l (f + b))) := sumOn_congr fun y hy => by
      have hne : ¬ t = y := fun c => ht (by rw [c]; exact hy)
      rw [h2 y, if_neg hne]
      omega
    omega
  · obtain ⟨_, h2⟩ := fall_one (m := g - f) hn hf (by omega) (by omega) e
    have eg : f + (g - f) = g := by omega
    rw [eg] at h2
    have e2 : sumOn S (fun y => sumTo y (goneN l g) - sumTo y (goneN l f)) = sumOn S (fun _ => 0) := sumOn_congr fun y hy => by
      have hne : ¬ t = y := fun c => ht (by rw [c]; exact hy)
      rw [h2 y, if_neg hne]
      omega
    have h0 : sumOn S (fun _ => 0) ≤ 0 := by
      have := (sumOn_one nd Str.empty (m := 0) (Int.le_refl _)).1
      have e : sumOn S (fun y => if Str.empty = y then (0 : Int) else 0) = sumOn S (fun _ => 0) := sumOn_congr fun y _ => by split <;> rfl
      omega
    omega
/-! ### some whose due notes stay among them are led into a ring -/
theorem stay_ring {zs S : List Str} {nx : Str → Option Str} (ld : Leads zs nx) {z0 : Str} (h0 : z0 ∈ S) (sub : ∀ y ∈ S, y ∈ zs) (st : ∀ y ∈ S, ∃ x, nx y = some x ∧ x ∈ S) : ∃ z r, z ∈ zs ∧ ringM zs nx z = some r := by
  have en := trail_ended ld (sub _ h0)
  have ch := trailM_chain zs nx z0
  obtain ⟨tl, eT⟩ := en.first
  obtain ⟨ini, y, eT2, ed⟩ := en.last
  have eL := lastM_eq eT2
  have nT := en.nd
  have bk := en.back
  -- all of the trail are among them
  have allS : ∀ (i : Nat) (x : Str), (trailM zs nx z0)[i]? = some x → x ∈ S := fun i => by
    induction i with
    | zero =>
      intro x hx
      rw [eT] at hx
      exact Option.some.inj hx ▸ h0
    | succ i ih =>
      intro x hx
      have hi : i < (trailM zs nx z0).length := by
        have := (List.getElem?_eq_some_iff.mp hx).1
        omega
      have e1 := List.getElem?_eq_getElem hi
      have c := ch i _ _ e1 hx
      obtain ⟨x', hx', hs⟩ := st _ (ih _ e1)
      rw [c] at hx'
      exact Option.some.inj hx' ▸ hs
  have hyS : y ∈ S := allS ini.length y (by rw [eT2, List.getElem?_append_right (Nat.le_refl _), Nat.sub_self]; rfl)
  obtain ⟨x, hx, _⟩ := st y hyS
  have hxT := bk x (by rw [ed]; exact hx)
  generalize hk : (trailM zs nx z0).idxOf x = k
  have hkl : k < (trailM zs nx z0).length := hk ▸ List.idxOf_lt_length_of_mem hxT
  have hkx : (trailM zs nx z0)[k]? = some x := hk ▸ idx_get hxT
  have lT : (trailM zs nx z0).length = ini.length + 1 := by rw [eT2, List.length_append]; rfl
  have la : ((trailM zs nx z0).drop k).length = ini.length + 1 - k := by rw [List.length_drop, lT]
  have at_ : ∀ i, i < ((trailM zs nx z0).drop k).length → (trailM zs nx z0)[k + i]? = some (rd ((trailM zs nx z0).drop k) i) := fun i hi => by
    rw [← List.getElem?_drop]
    exact rd_at hi
  have r0 : rd ((trailM zs nx z0).drop k) 0 = x := by
    have := at_ 0 (by omega)
    rw [Nat.add_zero, hkx] at this
    exact (Option.some.inj this).symm
  have hround : Round nx ((trailM zs nx z0).drop k) := fun i => by
    have hpos : 0 < ((trailM zs nx z0).drop k).length := by omega
    have hl := Nat.mod_lt i hpos
    have e1 : rd ((trailM zs nx z0).drop k) i = rd ((trailM zs nx z0).drop k) (i % ((trailM zs nx z0).drop k).length) := by
      unfold rd
      rw [Nat.mod_mod]
    have e2 : rd ((trailM zs nx z0).drop k) (i + 1) = rd ((trailM zs nx z0).drop k) (i % ((trailM zs nx z0).drop k).length + 1) := by
      unfold rd
      rw [Nat.mod_add_mod]
    rw [e1, e2]
    generalize i % ((trailM zs nx z0).drop k).length = j at hl
    have a1 := at_ j hl
    by_cases hj : j + 1 < ((trailM zs nx z0).drop k).length
    · exact ch (k + j) _ _ a1 (by have := at_ (j + 1) hj; rw [← Nat.add_assoc] at this; exact this)
    · have ej : k + j = ini.length := by omega
      have ey : rd ((trailM zs nx z0).drop k) j = y := by
        rw [ej, eT2, List.getElem?_append_right (Nat.le_refl _), Nat.sub_self] at a1
        rw [← eT2] at a1
        exact (Option.some.inj a1).symm
      have ej1 : j + 1 = ((trailM zs nx z0).drop k).length := by omega
      have e3 : rd ((trailM zs nx z0).drop k) (j + 1) = x := by
        rw [← r0]
        unfold rd
        rw [ej1, Nat.mod_self, Nat.zero_mod]
      rw [ey, e3]
      exact hx
  have hxz : x ∈ zs := en.sub x hxT
  obtain ⟨r, hr⟩ := round_ring ld (nT.sublist (List.drop_sublist _ _)) (by omega) (by rw [r0]; exact hxz) hround
  rw [r0] at hr
  exact ⟨x, r, hxz, hr⟩
/-! ### sums over all -/
theorem sumOn_lt {S : List Str} {h k : Str → Int} (hh : ∀ y ∈ S, h y ≤ k y) {z : Str} (hz : z ∈ S) (hl : h z < k z) : sumOn S h < sumOn S k := by
  induction S with
  | nil => cases hz
  | cons y r ih =>
    have h1 := hh y List.mem_cons_self
    have h3 := sumOn_le (S := r) (h := h) (k := k) fun z hz => hh z (List.mem_cons_of_mem _ hz)
    rcases List.mem_cons.mp hz with e | e
    · subst e
      unfold sumOn at h3 ⊢
      simp only [List.map_cons, List.sum_cons]
      omega
    · have h2 := ih (fun z hz => hh z (List.mem_cons_of_mem _ hz)) e
      unfold sumOn at h2 ⊢
      simp only [List.map_cons, List.sum_cons]
      omega
theorem sumOn_zero (S : List Str) : sumOn S (fun _ => 0) = 0 := by
  induction S with
  | nil => rfl
  | cons y r ih =>
    unfold sumOn at ih ⊢
    simp only [List.map_cons, List.sum_cons]
    omega
theorem sumOn_sub (S : List Str) (h k : Str → Int) : sumOn S (fun y => h y - k y) = sumOn S h - sumOn S k := by
  induction S with
  | nil => rfl
  | cons y r ih =>
    unfold sumOn at ih ⊢
    simp only [List.map_cons, List.sum_cons]
    omega
theorem sumOn_comm (S T : List Str) (c : Str → Str → Int) : sumOn S (fun y => sumOn T (fun x => c x y)) = sumOn T (fun x => sumOn S (fun y => c x y)) := by
  induction S with
  | nil => exact (sumOn_zero T).symm
  | cons y r ih =>
    have e1 : sumOn (y :: r) (fun y => sumOn T (fun x => c x y)) = sumOn T (fun x => c x y) + sumOn r (fun y => sumOn T (fun x => c x y)) := rfl
    have e2 : sumOn T (fun x => sumOn (y :: r) (fun y => c x y)) = sumOn T (fun x => c x y + sumOn r (fun y => c x y)) := rfl
    rw [e1, e2, sumOn_add, ih]
theorem sumOn_filter (p : Str → Bool) (h : Str → Int) : ∀ S : List Str, sumOn (S.filter p) h = sumOn S (fun x => if p x = true then h x else 0)
  | [] => rfl
  | y :: r => by
    have ih := sumOn_filter p h r
    rw [List.filter_cons]
    have e2 : sumOn (y :: r) (fun x => if p x = true then h x else 0) = (if p y = true then h y else 0) + sumOn r (fun x => if p x = true then h x else 0) := rfl
    rw [e2, ← ih]
    by_cases hp : p y = true
    · rw [if_pos hp, if_pos hp]
      rfl
    · rw [if_neg hp, if_neg hp]
      omega
theorem zip_on {β : Type} {zs : List Str} (nd : zs.Nodup) {A : List β} {B : List Int} {a0 : β} (la : A.length = zs.length) (lb : B.length = zs.length) (h : β × Int → Int) : ((A.zip B).map h).sum = sumOn zs (fun x => h (A.getD (zs.idxOf x) a0, B.getD (zs.idxOf x) 0)) := by
  unfold sumOn
  congr 1
  refine List.ext_getElem? fun i => ?_
  rw [List.getElem?_map, List.getElem?_map]
  by_cases hi : i < zs.length
  · have ha : i < A.length := by omega
    have hb : i < B.length := by omega
    rw [List.getElem?_zip_eq_some (z := (A[i], B[i])) |>.mpr ⟨List.getElem?_eq_getElem ha, List.getElem?_eq_getElem hb⟩, List.getElem?_eq_getElem hi]
    show some (h (A[i], B[i])) = some (h (A.getD (zs.idxOf zs[i]) a0, B.getD (zs.idxOf zs[i]) 0))
    rw [nd.idxOf_getElem i hi, getD_of (List.getElem?_eq_getElem ha), getD_of (List.getElem?_eq_getElem hb)]
  · rw [List.getElem?_eq_none (by rw [List.length_zip]; omega), List.getElem?_eq_none (by omega)]
    rfl
theorem left_some : ∀ {l : List (Str × Int)} {f : Int}, (∀ n ∈ l, 1 ≤ n.2) → 0 ≤ f → f < wholeN l → ∃ t b r, leftN l f = (t, b) :: r ∧ 1 ≤ b
  | [], f, _, h0, h => by
    have : wholeN [] = 0 := rfl
    omega
  | (t, a) :: r, f, hn, h0, h => by
    have ha : 1 ≤ a := hn (t, a) List.mem_cons_self
    rw [wholeN_cons] at h
    rw [leftN_cons]
    obtain ⟨p1, p2⟩ := part_nonneg ha h0
    by_cases hp : partOf a f < a
    · rw [if_pos hp]
      exact ⟨t, a - partOf a f, _, rfl, by omega⟩
    · rw [if_neg hp]
      have pe : partOf a f = a := by
        unfold partOf at hp ⊢
        split at hp <;> (split <;> omega)
      obtain ⟨t', b, r', e, b1⟩ := left_some (l := r) (f := f - partOf a f) (fun n hn' => hn n (List.mem_cons_of_mem _ hn')) p2 (by have : f < a + wholeN r := h; omega)
      exact ⟨t', b, r', e, b1⟩
def withF (D : Md) (G : List Int) : Md := { D with fallen := G }
/-- nobody can pay, and there is no ring -/
structure Settled (zs : List Str) (D : Md) : Prop where
  pay : ∀ z ∈ zs, mostP (bkOf zs D) (zs.idxOf z) z = 0
  ring : ∀ z ∈ zs, ringM zs (nxD zs D) z = none
/-- what might have fallen, and is covered -/
structure Covers (zs : List Str) (D : Md) (G : List Int) : Prop where
  len : G.length = zs.length
  low : ∀ x ∈ G, 0 ≤ x
  top : ∀ (i : Nat) (l : List (Str × Int)) (x : Int), D.notes[i]? = some l → G[i]? = some x → x ≤ wholeN l
  cov : ∀ (i : Nat) (y : Str), zs[i]? = some y → 0 ≤ cashM (bkOf zs (withF D G)) i y
theorem settled_greatest {zs : List Str} {D : Md} {G : List Int} (g : Gs zs D) (st : Settled zs D) (cv : Covers zs D G) : ∀ z ∈ zs, G.getD (zs.idxOf z) 0 ≤ D.fallen.getD (zs.idxOf z) 0 := fun z0 hz0 => Decidable.byContradiction fun hc => by
  have nd := g.nz.nd
  -- those of whom the other has more
  have hS : ∀ y, y ∈ zs.filter (fun y => decide (D.fallen.getD (zs.idxOf y) 0 < G.getD (zs.idxOf y) 0)) ↔ y ∈ zs ∧ D.fallen.getD (zs.idxOf y) 0 < G.getD (zs.idxOf y) 0 := fun y => by
    rw [List.mem_filter]
    exact ⟨fun h => ⟨h.1, of_decide_eq_true h.2⟩, fun h => ⟨h.1, decide_eq_true h.2⟩⟩
  generalize hSd : zs.filter (fun y => decide (D.fallen.getD (zs.idxOf y) 0 < G.getD (zs.idxOf y) 0)) = S at hS
  have ndS : S.Nodup := hSd ▸ nd.sublist (List.filter_sublist)
  have at_ : ∀ x ∈ zs, ∃ l f x', D.notes[zs.idxOf x]? = some l ∧ D.fallen[zs.idxOf x]? = some f ∧ G[zs.idxOf x]? = some x' ∧ (∀ n ∈ l, 1 ≤ n.2) ∧ 0 ≤ f ∧ 0 ≤ x' ∧ x' ≤ wholeN l := fun x hx => by
    have hj := List.idxOf_lt_length_of_mem hx
    have h1 : zs.idxOf x < D.notes.length := by rw [g.ln]; exact hj
    have h2 : zs.idxOf x < D.fallen.length := by rw [g.lf]; exact hj
    have h3 : zs.idxOf x < G.length := by rw [cv.len]; exact hj
    exact ⟨_, _, _, List.getElem?_eq_getElem h1, List.getElem?_eq_getElem h2, List.getElem?_eq_getElem h3, fun n hn => (g.nt _ (List.getElem_mem h1) n hn).2.1, g.fl _ (List.getElem_mem h2), cv.low _ (List.getElem_mem h3), cv.top _ _ _ (List.getElem?_eq_getElem h1) (List.getElem?_eq_getElem h3)⟩
  obtain ⟨z, r, hz, hR⟩ := stay_ring (S := S) (z0 := z0) g.walks.ld ((hS z0).mpr ⟨hz0, by omega⟩) (fun y hy => ((hS y).mp hy).1) (fun y0 hy0 => by
    obtain ⟨hy0z, hy0l⟩ := (hS y0).mp hy0
    obtain ⟨l0, f0, x0, el0, ef0, eg0, hn0, hf0, hx0, hw0⟩ := at_ y0 hy0z
    rw [getD_of ef0, getD_of eg0] at hy0l
    obtain ⟨t, b, r0, eL, b1⟩ := left_some hn0 hf0 (by omega)
    have hnx : nxD zs D y0 = some t := by
      rw [nxD_at nd (idx_get hy0z) el0 ef0, eL]
      rfl
    refine ⟨t, hnx, Decidable.byContradiction fun ht => ?_⟩
    -- all sums
    have cF : ∀ y ∈ S, cashM (bkOf zs D) (zs.idxOf y) y = 0 := fun y hy => by
      obtain ⟨hyz, hyl⟩ := (hS y).mp hy
      obtain ⟨l, f, x, el, ef, eg, hn, hf, hx, hw⟩ := at_ y hyz
      rw [getD_of ef, getD_of eg] at hyl
      obtain ⟨t', b', r', eL', b1'⟩ := left_some hn hf (by omega)
      have eo : (duesM (bkOf zs D)).getD (zs.idxOf y) none = some (t', b') := by
        rw [getD_of (dues_at (M := bkOf zs D) el ef), eL']
        rfl
      have := st.pay y hyz
      rw [mostP_some (n := (t', b')) eo] at this
      have c0 := g.cs _ _ (idx_get hyz)
      split at this
      · exact this
      · have hb' : b' = 0 := this
        omega
    have e1 : ∀ (F : List Int), F.length = zs.length → ∀ y, fallTo (bkOf zs (withF D F)) y = sumOn zs (fun x => sumTo y (goneN (D.notes.getD (zs.idxOf x) []) (F.getD (zs.idxOf x) 0))) := fun F lF y => zip_on nd (A := D.notes) (B := F) (a0 := []) g.ln lF fun p => sumTo y (goneN p.1 p.2)
    have dif : ∀ y ∈ S, cashM (bkOf zs (withF D G)) (zs.idxOf y) y - cashM (bkOf zs D) (zs.idxOf y) y = sumOn zs (fun x => sumTo y (goneN (D.notes.getD (zs.idxOf x) []) (G.getD (zs.idxOf x) 0)) - sumTo y (goneN (D.notes.getD (zs.idxOf x) []) (D.fallen.getD (zs.idxOf x) 0))) - (G.getD (zs.idxOf y) 0 - D.fallen.getD (zs.idxOf y) 0) := fun y hy => by
      rw [sumOn_sub, ← e1 G cv.len y, ← e1 D.fallen g.lf y]
      show (D.given.getD (zs.idxOf y) 0 + fallTo (bkOf zs (withF D G)) y - G.getD (zs.idxOf y) 0) - (D.given.getD (zs.idxOf y) 0 + fallTo (bkOf zs D) y - D.fallen.getD (zs.idxOf y) 0) = fallTo (bkOf zs (withF D G)) y - fallTo (bkOf zs D) y - _
      omega
    have low : 0 ≤ sumOn S (fun y => cashM (bkOf zs (withF D G)) (zs.idxOf y) y - cashM (bkOf zs D) (zs.idxOf y) y) := by
      have := sumOn_le (S := S) (h := fun _ => 0) (k := fun y => cashM (bkOf zs (withF D G)) (zs.idxOf y) y - cashM (bkOf zs D) (zs.idxOf y) y) fun y hy => by
        have c1 := cv.cov _ _ (idx_get ((hS y).mp hy).1)
        have c2 := cF y hy
        show 0 ≤ cashM (bkOf zs (withF D G)) (zs.idxOf y) y - cashM (bkOf zs D) (zs.idxOf y) y
        omega
      rw [sumOn_zero] at this
      exact this
    rw [sumOn_congr dif, sumOn_sub, sumOn_comm] at low
    have top : sumOn zs (fun x => sumOn S (fun y => sumTo y (goneN (D.notes.getD (zs.idxOf x) []) (G.getD (zs.idxOf x) 0)) - sumTo y (goneN (D.notes.getD (zs.idxOf x) []) (D.fallen.getD (zs.idxOf x) 0)))) < sumOn zs (fun x => if decide (D.fallen.getD (zs.idxOf x) 0 < G.getD (zs.idxOf x) 0) = true then G.getD (zs.idxOf x) 0 - D.fallen.getD (zs.idxOf x) 0 else 0) := by
      refine sumOn_lt (z := y0) (fun x hx => ?_) hy0z ?_
      · obtain ⟨l, f, x', el, ef, eg, hn, hf, hx', hw⟩ := at_ x hx
        rw [getD_of el, getD_of ef, getD_of eg]
        by_cases h : f < x'
        · rw [if_pos (decide_eq_true h)]
          exact gone_on ndS hn hf (by omega)
        · rw [if_neg (by rw [decide_eq_false h]; exact Bool.false_ne_true)]
          have := sumOn_le (S := S) (h := fun y => sumTo y (goneN l x') - sumTo y (goneN l f)) (k := fun _ => 0) fun y _ => by
            have := gone_mono y (l := l) (f := x') (g := f) hn hx' (by omega)
            show sumTo y (goneN l x') - sumTo y (goneN l f) ≤ 0
            omega
          rw [sumOn_zero] at this
          exact this
      · rw [getD_of el0, getD_of ef0, getD_of eg0, if_pos (decide_eq_true hy0l)]
        exact gone_less ndS hn0 hf0 hy0l eL b1 ht
    rw [← sumOn_filter (fun x => decide (D.fallen.getD (zs.idxOf x) 0 < G.getD (zs.idxOf x) 0)) (fun x => G.getD (zs.idxOf x) 0 - D.fallen.getD (zs.idxOf x) 0) zs, hSd] at top
    omega)
  rw [st.ring z hz] at hR
  cases hR
theorem Gs.covers {zs : List Str} {D : Md} (g : Gs zs D) (gb : Gb D) : Covers zs D D.fallen := ⟨g.lf, g.fl, fun i l x el ex => gb.fw i l x el ex, g.cs⟩
/-- all ends are the same -/
theorem settled_one {zs : List Str} {D E : Md} (g : Gs zs D) (gb : Gb D) (g' : Gs zs E) (gb' : Gb E) (hg : E.given = D.given) (hn : E.notes = D.notes) (s : Settled zs D) (s' : Settled zs E) : E = D := by
  have c1 : Covers zs D E.fallen := by
    have c := g'.covers gb'
    refine ⟨c.len, c.low, fun i l x el ex => c.top i l x (by rw [hn]; exact el) ex, fun i y ei => ?_⟩
    have := c.cov i y ei
    unfold withF at this ⊢
    rw [hg, hn] at this
    exact this
  have c2 : Covers zs E D.fallen := by
    have c := g.covers gb
    refine ⟨c.len, c.low, fun i l x el ex => c.top i l x (by rw [← hn]; exact el) ex, fun i y ei => ?_⟩
    have := c.cov i y ei
    unfold withF at this ⊢
    rw [← hg, ← hn] at this
    exact this
  have h1 := settled_greatest g s c1
  have h2 := settled_greatest g' s' c2
  have e : E.fallen = D.fallen := by
    refine List.ext_getElem? fun i => ?_
    by_cases hi : i < zs.length
    · have ha : i < E.fallen.length := by rw [g'.lf]; exact hi
      have hb : i < D.fallen.length := by rw [g.lf]; exact hi
      have k1 := h1 zs[i] (List.getElem_mem hi)
      have k2 := h2 zs[i] (List.getElem_mem hi)
      rw [g.nz.nd.idxOf_getElem i hi, getD_of (List.getElem?_eq_getElem ha), getD_of (List.getElem?_eq_getElem hb)] at k1 k2
      rw [List.getElem?_eq_getElem ha, List.getElem?_eq_getElem hb]
      congr 1
      omega
    · rw [List.getElem?_eq_none (by rw [g'.lf]; omega), List.getElem?_eq_none (by rw [g.lf]; omega)]
  obtain ⟨a, b, c⟩ := D
  obtain ⟨a', b', c'⟩ := E
  simp only at hg hn e
  subst hg hn e
  rfl
/-! ### more never hurts -/
theorem gone_app : ∀ (l m : List (Str × Int)) (f : Int), (∀ n ∈ l, 1 ≤ n.2) → (∀ n ∈ m, 1 ≤ n.2) → 0 ≤ f → f ≤ wholeN l → goneN (l ++ m) f = goneN l f
  | [], m, f, _, hm, h0, h => by
    have e0 : wholeN [] = 0 := rfl
    have ef : f = 0 := by omega
    subst ef
    have : ∀ m : List (Str × Int), (∀ n ∈ m, 1 ≤ n.2) → goneN m 0 = [] := fun m => by
      induction m with
      | nil => exact fun _ => rfl
      | cons n r ih =>
        intro hm
        obtain ⟨t, a⟩ := n
        have ha : 1 ≤ a := hm (t, a) List.mem_cons_self
        rw [goneN_cons, part_zero ha]
        simp only [Int.lt_irrefl, if_false, Int.sub_zero, List.nil_append]
        exact ih fun n hn => hm n (List.mem_cons_of_mem _ hn)
    rw [List.nil_append, this m hm]
    rfl
  | (t, a) :: r, m, f, hl, hm, h0, h => by
    have ha : 1 ≤ a := hl (t, a) List.mem_cons_self
    obtain ⟨p1, p2⟩ := part_nonneg ha h0
    have hw : f - partOf a f ≤ wholeN r := by
      rw [wholeN_cons] at h
      have h' : f ≤ a + wholeN r := h
      have := wholeN_nonneg (l := r) fun n hn => hl n (List.mem_cons_of_mem _ hn)
      unfold partOf
      split <;> omega
    rw [List.cons_append, goneN_cons, goneN_cons, gone_app r m _ (fun n hn => hl n (List.mem_cons_of_mem _ hn)) hm p2 hw]
/-! ### each of a ring tells the same ring -/
theorem round_trail {zs : List Str} {nx : Str → Option Str} {as : List Str} (ld : Leads zs nx) (nd : as.Nodup) (h0 : 0 < as.length) (hz : rd as 0 ∈ zs) (hr : Round nx as) : trailM zs nx (rd as 0) = as := by
  have en := trail_ended ld hz
  have ch := trailM_chain zs nx (rd as 0)
  obtain ⟨tl, eT⟩ := en.first
  obtain ⟨ini, y, eT2, ed⟩ := en.last
  have eL := lastM_eq eT2
  have hT := round_at (T := trailM zs nx (rd as 0)) hr (by rw [eT]; rfl) ch
  have nT := en.nd
  have bk := en.back
  have lT : (trailM zs nx (rd as 0)).length = ini.length + 1 := by rw [eT2, List.length_append]; rfl
  have hy : y = rd as ini.length := by
    have := hT ini.length (by omega)
    rw [eT2, List.getElem?_append_right (Nat.le_refl _), Nat.sub_self] at this
    exact Option.some.inj this
  have hle : ini.length + 1 ≤ as.length := Decidable.byContradiction fun c => by
    have h1 := hT as.length (by omega)
    have h2 := hT 0 (by omega)
    have e : rd as as.length = rd as 0 := by
      unfold rd
      rw [Nat.mod_self, Nat.zero_mod]
    rw [e, ← h2] at h1
    have := (List.getElem?_inj (by omega) nT).mp h1
    omega
  have hb : rd as (ini.length + 1) ∈ trailM zs nx (rd as 0) := by
    refine bk _ ?_
    rw [eL, hy]
    exact hr _
  have hfull : ini.length + 1 = as.length := Decidable.byContradiction fun c => by
    obtain ⟨i, hi, e⟩ := List.getElem_of_mem hb
    have h1 := hT i hi
    rw [List.getElem?_eq_getElem hi, e] at h1
    have h2 := rd_at (as := as) (i := ini.length + 1) (by omega)
    have h3 := rd_at (as := as) (i := i) (by omega)
    rw [Option.some.inj h1, ← h3] at h2
    have := (List.getElem?_inj (by omega) nd).mp h2
    omega
  refine List.ext_getElem? fun i => ?_
  by_cases hi : i < as.length
  · rw [hT i (by omega), rd_at hi]
  · rw [List.getElem?_eq_none (by omega), List.getElem?_eq_none (by omega)]
theorem ring_round {zs : List Str} {nx : Str → Option Str} {z : Str} {r : List Str} (ld : Leads zs nx) (hz : z ∈ zs) (h : ringM zs nx z = some r) : Round nx (trailM zs nx z) := fun i => by
  have en := trail_ended ld hz
  have ch := trailM_chain zs nx z
  obtain ⟨tl, eT⟩ := en.first
  obtain ⟨ini, y, eT2, ed⟩ := en.last
  have eL := lastM_eq eT2
  have hl : nx (lastM zs nx z) = some z := by
    unfold ringM at h
    split at h
    · assumption
    · cases h
  have lT : (trailM zs nx z).length = ini.length + 1 := by rw [eT2, List.length_append]; rfl
  have hpos : 0 < (trailM zs nx z).length := by omega
  have hm := Nat.mod_lt i hpos
  have e1 : rd (trailM zs nx z) i = rd (trailM zs nx z) (i % (trailM zs nx z).length) := by
    unfold rd
    rw [Nat.mod_mod]
  have e2 : rd (trailM zs nx z) (i + 1) = rd (trailM zs nx z) (i % (trailM zs nx z).length + 1) := by
    unfold rd
    rw [Nat.mod_add_mod]
  rw [e1, e2]
  generalize i % (trailM zs nx z).length = j at hm
  have a1 := rd_at hm
  by_cases hj : j + 1 < (trailM zs nx z).length
  · exact ch j _ _ a1 (rd_at hj)
  · have ej : j = ini.length := by omega
    have ey : rd (trailM zs nx z) j = y := by
      have a2 : (ini ++ [y])[j]? = some y := by rw [ej, List.getElem?_append_right (Nat.le_refl _), Nat.sub_self]; rfl
      rw [← eT2, a1] at a2
      exact Option.some.inj a2
    have e3 : rd (trailM zs nx z) (j + 1) = z := by
      have ej1 : j + 1 = (trailM zs nx z).length := by omega
      have a3 := rd_at hpos
      have a4 : (trailM zs nx z)[0]? = some z := by rw [eT]; rfl
      rw [a3] at a4
      refine Eq.trans ?_ (Option.some.inj a4)
      unfold rd
      rw [ej1, Nat.mod_self, Nat.zero_mod]
    rw [ey, e3, ← eL]
    exact hl
theorem rot_rd {T : List Str} {k : Nat} (hk : k < T.length) (i : Nat) : rd (T.drop k ++ T.take k) i = rd T (k + i) := by
  have lr : (T.drop k ++ T.take k).length = T.length := by
    rw [List.length_append, List.length_drop, List.length_take]
    omega
  have hm := Nat.mod_lt i (show 0 < T.length by omega)
  have e1 : rd (T.drop k ++ T.take k) i = (T.drop k ++ T.take k).getD (i % T.length) Str.empty := by
    unfold rd
    rw [lr]
  have e2 : rd T (k + i) = T.getD ((k + i % T.length) % T.length) Str.empty := by
    unfold rd
    rw [Nat.add_mod_mod]
  rw [e1, e2]
  generalize i % T.length = j at hm
  rw [List.getD_eq_getElem?_getD, List.getD_eq_getElem?_getD]
  congr 1
  by_cases h : j < T.length - k
  · rw [List.getElem?_append_left (by rw [List.length_drop]; exact h), List.getElem?_drop, Nat.mod_eq_of_lt (by omega)]
  · rw [List.getElem?_append_right (by rw [List.length_drop]; omega), List.length_drop, List.getElem?_take, if_pos (by omega)]
    congr 1
    rw [Nat.mod_eq_sub_mod (by omega), Nat.mod_eq_of_lt (by omega)]
    omega
theorem no_rings {zs : List Str} {nx : Str → Option Str} (ld : Leads zs nx) (h : ∀ z ∈ zs, ∀ r, ringM zs nx z = some r → r.head? ≠ some z) : ∀ z ∈ zs, ringM zs nx z = none := fun z hz => by
  cases hR : ringM zs nx z with
  | none => rfl
  | some r =>
    exfalso
    have en := trail_ended ld hz
    have hzT : z ∈ trailM zs nx z := by
      obtain ⟨tl, eT⟩ := en.first
      rw [eT]
      exact List.mem_cons_self
    have hround := ring_round ld hz hR
    have nT := en.nd
    have sub := en.sub
    obtain ⟨f, rs, _, ef, fT, fz⟩ := find_some hz hzT
    generalize trailM zs nx z = T at hzT hround nT sub ef fT
    generalize hk : T.idxOf f = k
    have hkl : k < T.length := hk ▸ List.idxOf_lt_length_of_mem fT
    have hkf : T[k]? = some f := hk ▸ idx_get fT
    have pm : (T.drop k ++ T.take k).Perm T := by
      have := List.perm_append_comm (l₁ := T.drop k) (l₂ := T.take k)
      rw [List.take_append_drop] at this
      exact this
    have r0 : rd (T.drop k ++ T.take k) 0 = f := by
      rw [rot_rd hkl]
      have := rd_at hkl
      rw [hkf] at this
      exact (Option.some.inj this).symm
    have hr2 : Round nx (T.drop k ++ T.take k) := fun i => by
      rw [rot_rd hkl, rot_rd hkl]
      exact hround (k + i)
    have nd2 : (T.drop k ++ T.take k).Nodup := pm.symm.nodup nT
    have l0 : 0 < (T.drop k ++ T.take k).length := by
      rw [pm.length_eq]
      omega
    have et := round_trail ld nd2 l0 (by rw [r0]; exact fz) hr2
    obtain ⟨r2, hR2⟩ := round_ring ld nd2 l0 (by rw [r0]; exact fz) hr2
    rw [r0] at et hR2
    have ff : firstM zs (trailM zs nx f) = f := by
      rw [et, ← ef]
      unfold firstM
      congr 2
      funext x
      exact decide_eq_decide.mpr pm.mem_iff
    refine h f fz r2 hR2 ?_
    unfold ringM at hR2
    split at hR2
    · have e := Option.some.inj hR2
      rw [← e, ff]
      obtain ⟨tl, eT⟩ := (trail_ended ld fz).first
      rw [eT]
      simp
    · cases hR2
/-! ### where it ends -/
theorem settled_of {zs : List Str} {D : Md} (g : Gs zs D) (hr : ∀ z ∈ zs, ∀ r, ringM zs (nxD zs D) z = some r → r.head? ≠ some z) (hp : ∀ z ∈ zs, (duesM (bkOf zs D)).getD (zs.idxOf z) none = none ∨ cashM (bkOf zs D) (zs.idxOf z) z ≤ 0) : Settled zs D := by
  refine ⟨fun z hz => ?_, no_rings g.walks.ld hr⟩
  cases h : (duesM (bkOf zs D)).getD (zs.idxOf z) none with
  | none => exact mostP_none h
  | some n =>
    have gn : 1 ≤ n.2 ∧ n.2 ≤ 10 ^ 58 := (g.due (getD_mem h)).2
    have c0 := g.cs _ _ (idx_get hz)
    have c1 : cashM (bkOf zs D) (zs.idxOf z) z ≤ 0 := by
      rcases hp z hz with c | c
      · rw [h] at c
        cases c
      · exact c
    rw [mostP_some h]
    split <;> omega
theorem sum_seti : ∀ (l : List Int) (j : Nat) (f x : Int), l[j]? = some f → (l.set j x).sum = l.sum - f + x
  | [], j, f, x, h => by cases h
  | a :: r, 0, f, x, h => by
    have e : a = f := Option.some.inj h
    subst e
    simp only [List.set_cons_zero, List.sum_cons]
    omega
  | a :: r, j + 1, f, x, h => by
    have ih := sum_seti r j f x (by simpa using h)
    simp only [List.set_cons_succ, List.sum_cons]
    omega
theorem fell_sum {D : Md} {j : Nat} {f m : Int} (ef : D.fallen[j]? = some f) : (fellD D j (f + m)).fallen.sum = D.fallen.sum + m := by
  show (D.fallen.set j (f + m)).sum = _
  rw [sum_seti _ _ _ _ ef]
  omega
theorem fallAll_sum {zs : List Str} (m : Int) : ∀ (r : List Str) (D : Md), (∀ y ∈ r, y ∈ zs) → D.fallen.length = zs.length → (fallAll zs D r m).fallen.sum = D.fallen.sum + (r.length : Int) * m
  | [], D, _, _ => by
    show D.fallen.sum = _
    simp
  | x :: r, D, sub, lf => by
    have hx := sub x List.mem_cons_self
    have hl : zs.idxOf x < D.fallen.length := by
      rw [lf]
      exact List.idxOf_lt_length_of_mem hx
    rw [fallAll_cons, fallAll_sum m r _ (fun y hy => sub y (List.mem_cons_of_mem _ hy)) (by show (D.fallen.set _ _).length = _; rw [List.length_set]; exact lf), getD_of (List.getElem?_eq_getElem hl), fell_sum (List.getElem?_eq_getElem hl), List.length_cons, Int.natCast_add, Int.add_mul]
    simp
    omega
def wholesD (D : Md) : Int := (D.notes.map wholeN).sum
theorem fallen_le : ∀ {ns : List (List (Str × Int))} {fs : List Int}, fs.length = ns.length → (∀ (j : Nat) (l : List (Str × Int)) (f : Int), ns[j]? = some l → fs[j]? = some f → f ≤ wholeN l) → fs.sum ≤ (ns.map wholeN).sum
  | [], [], _, _ => Int.le_refl _
  | l :: ns, f :: fs, hl, h => by
    have h0 := h 0 l f rfl rfl
    have ih := fallen_le (ns := ns) (fs := fs) (by simpa using hl) fun j l' f' e1 e2 => h (j + 1) l' f' (by simpa using e1) (by simpa using e2)
    simp only [List.map_cons, List.sum_cons]
    omega
  | [], _ :: _, hl, _ => by simp at hl
  | _ :: _, [], hl, _ => by simp at hl
/-- what may yet fall -/
def restD (D : Md) : Nat := (wholesD D - D.fallen.sum).toNat
theorem rest_less {zs : List Str} {D E : Md} (g : Gs zs E) (gb : Gb E) (hn : E.notes = D.notes) (hs : D.fallen.sum < E.fallen.sum) : restD E < restD D := by
  have h1 := fallen_le (ns := E.notes) (fs := E.fallen) (by rw [g.lf, g.ln]) gb.fw
  unfold restD wholesD
  rw [← hn]
  omega
end Rc

namespace Rc
open PySem PySem.Spec PyProof.Rows L2 RZ
theorem left_fall : ∀ {l : List (Str × Int)} {f m b : Int} {t : Str} {r : List (Str × Int)}, (∀ n ∈ l, 1 ≤ n.2) → 0 ≤ f → 0 ≤ m → m ≤ b → leftN l f = (t, b) :: r → leftN l (f + m) = (if m < b then [(t, b - m)] else []) ++ r
  | [], _, _, _, _, _, _, _, _, _, e => by cases e
  | (t0, a) :: l, f, m, b, t, r, hn, f0, m0, mb, e => by
    have ha : 1 ≤ a := hn (t0, a) List.mem_cons_self
    rw [leftN_cons] at e
    by_cases hp : partOf a f < a
    · have hf : f < a := by
        unfold partOf at hp
        split at hp <;> omega
      have ep : partOf a f = f := by
        unfold partOf
        rw [if_pos hf]
      rw [ep, if_pos hf] at e
      have e1 : (t0, a - f) = (t, b) := (List.cons.inj e).1
      have e2 : leftN l (f - f) = r := (List.cons.inj e).2
      have et : t0 = t := congrArg Prod.fst e1
      have eb : a - f = b := congrArg Prod.snd e1
      rw [leftN_cons]
      by_cases hm : m < b
      · have ep2 : partOf a (f + m) = f + m := by
          unfold partOf
          rw [if_pos (by omega)]
        rw [ep2, if_pos (by omega), if_pos hm, ← e2, et, show a - (f + m) = b - m by omega, show f + m - (f + m) = f - f by omega]
      · have ep2 : partOf a (f + m) = a := by
          unfold partOf
          rw [if_neg (by omega)]
        rw [ep2, if_neg (by omega), if_neg hm, ← e2, show f + m - a = f - f by omega]
    · have hf : a ≤ f := by
        unfold partOf at hp
        split at hp <;> omega
      have ep : partOf a f = a := by
        unfold partOf
        rw [if_neg (by omega)]
      have ep2 : partOf a (f + m) = a := by
        unfold partOf
        rw [if_neg (by omega)]
      rw [ep, if_neg (by omega), List.nil_append] at e
      rw [leftN_cons, ep2, if_neg (by omega), List.nil_append, show f + m - a = (f - a) + m by omega]
      exact left_fall (fun n h => hn n (List.mem_cons_of_mem _ h)) (by omega) m0 mb e
theorem fallAll_perm {zs : List Str} {D : Md} {r r' : List Str} {m : Int} (nd : zs.Nodup) (lf : D.fallen.length = zs.length) (nr : r.Nodup) (nr' : r'.Nodup) (sub : ∀ y ∈ r, y ∈ zs) (mem : ∀ y, y ∈ r ↔ y ∈ r') : fallAll zs D r m = fallAll zs D r' m := by
  obtain ⟨a, b, c⟩ := fallAll_keeps zs m r D
  obtain ⟨a', b', c'⟩ := fallAll_keeps zs m r' D
  refine md_ext (a.trans a'.symm) (List.ext_getElem? fun i => ?_) (b.trans b'.symm)
  by_cases hi : i < zs.length
  · have hf : i < D.fallen.length := by omega
    rw [fallAll_at nd m r D nr sub lf i _ _ (List.getElem?_eq_getElem hi) (List.getElem?_eq_getElem hf), fallAll_at nd m r' D nr' (fun y hy => sub y ((mem y).mpr hy)) lf i _ _ (List.getElem?_eq_getElem hi) (List.getElem?_eq_getElem hf)]
    simp only [mem]
  · rw [List.getElem?_eq_none (by omega), List.getElem?_eq_none (by omega)]
theorem fallAll_twice {zs : List Str} {D : Md} {r : List Str} {m k : Int} (nd : zs.Nodup) (lf : D.fallen.length = zs.length) (nr : r.Nodup) (sub : ∀ y ∈ r, y ∈ zs) : fallAll zs (fallAll zs D r m) r k = fallAll zs D r (m + k) := by
  obtain ⟨a, b, c⟩ := fallAll_keeps zs m r D
  obtain ⟨a1, b1, c1⟩ := fallAll_keeps zs k r (fallAll zs D r m)
  obtain ⟨a', b', c'⟩ := fallAll_keeps zs (m + k) r D
  refine md_ext (a1.trans (a.trans a'.symm)) (List.ext_getElem? fun i => ?_) (b1.trans (b.trans b'.symm))
  by_cases hi : i < zs.length
  · have hf : i < D.fallen.length := by omega
    have e1 := fallAll_at nd m r D nr sub lf i _ _ (List.getElem?_eq_getElem hi) (List.getElem?_eq_getElem hf)
    rw [fallAll_at nd k r _ nr sub (c.trans lf) i _ _ (List.getElem?_eq_getElem hi) e1, fallAll_at nd (m + k) r D nr sub lf i _ _ (List.getElem?_eq_getElem hi) (List.getElem?_eq_getElem hf)]
    congr 1
    split <;> omega
  · rw [List.getElem?_eq_none (by omega), List.getElem?_eq_none (by omega)]
/-- weavings -/
inductive Wv : Bk → List (Str × Str × Int) → Bk → Prop
  | nil (M : Bk) : Wv M [] M
  | pay {M N : Bk} {z : Str} {j : Nat} {m : Int} {W : List (Str × Str × Int)} (ok : M.Ok) (ej : M.names[j]? = some z) (m1 : 1 ≤ m) (mm : m ≤ mostP M j z) (fo : FallOk M [(z, m)]) (h : Wv (fallM M [(z, m)]) W N) : Wv M (("pay", z, m) :: W) N
  | clear {M N : Bk} {z : Str} {m : Int} {r : List Str} {W : List (Str × Str × Int)} (co : ClearOk M z m r) (h : Wv (fallM M (r.map fun x => (x, m))) W N) : Wv M (("clear", z, m) :: W) N
theorem Wv.app {M N O : Bk} {W V' : List (Str × Str × Int)} (h : Wv M W N) (h' : Wv N V' O) : Wv M (W ++ V') O := by
  induction h with
  | nil => exact h'
  | pay ok ej m1 mm fo h ih => exact .pay ok ej m1 mm fo (ih h')
  | clear co h ih => exact .clear co (ih h')
/-- a round of persons whose due notes are no less than c -/
structure Ro (zs : List Str) (D : Md) (as : List Str) (c : Int) : Prop where
  g : Gs zs D
  gb : Gb D
  nd : as.Nodup
  sub : ∀ y ∈ as, y ∈ zs
  l0 : 0 < as.length
  rd : Round (nxD zs D) as
  amt : ∀ y ∈ as, c ≤ amtAt zs (duesM (bkOf zs D)) y
theorem mem_rd {as : List Str} {y : Str} (h : y ∈ as) : ∃ i, i < as.length ∧ y = rd as i := by
  obtain ⟨i, hi, e⟩ := List.getElem_of_mem h
  refine ⟨i, hi, ?_⟩
  have := rd_at hi
  rw [List.getElem?_eq_getElem hi] at this
  rw [← e]
  exact Option.some.inj this
theorem Ro.du {zs : List Str} {D : Md} {as : List Str} {c : Int} (h : Ro zs D as c) : DuesOf zs D (nxD zs D) c as := fun x hx => by
  have g := h.g
  have hxz := h.sub x hx
  obtain ⟨i, _, rfl⟩ := mem_rd hx
  have ht := h.rd i
  have hj : zs.idxOf (Rc.rd as i) < zs.length := List.idxOf_lt_length_of_mem hxz
  have h1 : zs.idxOf (Rc.rd as i) < D.notes.length := by rw [g.ln]; exact hj
  have h2 : zs.idxOf (Rc.rd as i) < D.fallen.length := by rw [g.lf]; exact hj
  have el := List.getElem?_eq_getElem h1
  have ef := List.getElem?_eq_getElem h2
  have hnx := ht
  rw [nxD_at g.nz.nd (idx_get hxz) el ef] at hnx
  cases hL : leftN D.notes[zs.idxOf (Rc.rd as i)] D.fallen[zs.idxOf (Rc.rd as i)] with
  | nil =>
    rw [hL] at hnx
    cases hnx
  | cons n rest =>
    obtain ⟨t', b⟩ := n
    rw [hL] at hnx
    have e1 : t' = Rc.rd as (i + 1) := Option.some.inj hnx
    subst e1
    have ea : amtAt zs (duesM (bkOf zs D)) (Rc.rd as i) = b := by
      unfold amtAt
      have eo : (duesM (bkOf zs D)).getD (zs.idxOf (Rc.rd as i)) none = (leftN D.notes[zs.idxOf (Rc.rd as i)] D.fallen[zs.idxOf (Rc.rd as i)]).head? := getD_of (dues_at (M := bkOf zs D) el ef)
      rw [eo, hL]
      rfl
    have hb := h.amt _ hx
    rw [ea] at hb
    exact ⟨_, _, _, b, rest, el, ef, fun n hn => (g.nt _ (List.getElem_mem h1) n hn).2.1, g.fl _ (List.getElem_mem h2), hL, hb, ht⟩
theorem Ro.mono {zs : List Str} {D : Md} {as : List Str} {c m : Int} (h : Ro zs D as c) (hm : m ≤ c) : Ro zs D as m := ⟨h.g, h.gb, h.nd, h.sub, h.l0, h.rd, fun y hy => Int.le_trans hm (h.amt y hy)⟩
/-- the round from one of them on -/
def rot (as : List Str) (k : Nat) : List Str := as.drop k ++ as.take k
theorem rot_perm (as : List Str) (k : Nat) : (rot as k).Perm as := by
  have := List.perm_append_comm (l₁ := as.drop k) (l₂ := as.take k)
  rw [List.take_append_drop] at this
  exact this
theorem rot_round {nx : Str → Option Str} {as : List Str} {k : Nat} (hk : k < as.length) (h : Round nx as) : Round nx (rot as k) := fun i => by
  unfold rot
  rw [rot_rd hk, rot_rd hk]
  exact h (k + i)
theorem rot_zero {as : List Str} {k : Nat} (hk : k < as.length) : rd (rot as k) 0 = rd as k := by
  unfold rot
  rw [rot_rd hk, Nat.add_zero]
theorem Ro.rot {zs : List Str} {D : Md} {as : List Str} {c : Int} (h : Ro zs D as c) {k : Nat} (hk : k < as.length) : Ro zs D (rot as k) c := by
  have pm := rot_perm as k
  exact ⟨h.g, h.gb, pm.symm.nodup h.nd, fun y hy => h.sub y (pm.mem_iff.mp hy), by rw [pm.length_eq]; exact h.l0, rot_round hk h.rd, fun y hy => h.amt y (pm.mem_iff.mp hy)⟩
theorem Ro.trail {zs : List Str} {D : Md} {as : List Str} {c : Int} (h : Ro zs D as c) : trailM zs (nxD zs D) (Rc.rd as 0) = as := round_trail h.g.walks.ld h.nd h.l0 (h.sub _ (rd_mem h.l0 0)) h.rd
theorem Ro.ring0 {zs : List Str} {D : Md} {as : List Str} {c : Int} (h : Ro zs D as c) : ringM zs (nxD zs D) (Rc.rd as 0) = some (as.drop (as.idxOf (firstM zs as)) ++ as.take (as.idxOf (firstM zs as))) := by
  obtain ⟨r, hR⟩ := round_ring h.g.walks.ld h.nd h.l0 (h.sub _ (rd_mem h.l0 0)) h.rd
  have ht := h.trail
  have hR2 := hR
  unfold ringM at hR
  split at hR
  · rw [ht] at hR
    exact hR2.trans hR.symm
  · cases hR
theorem Ro.ring {zs : List Str} {D : Md} {as : List Str} {c : Int} (h : Ro zs D as c) {z : Str} (hz : z ∈ as) : ∃ r, ringM zs (nxD zs D) z = some r ∧ r.Perm as := by
  obtain ⟨k, hk, rfl⟩ := mem_rd hz
  have hr := (h.rot hk).ring0
  rw [rot_zero hk] at hr
  refine ⟨_, hr, ?_⟩
  generalize (Rc.rot as k).idxOf (firstM zs (Rc.rot as k)) = j
  exact (rot_perm (Rc.rot as k) j).trans (rot_perm as k)
theorem Ro.clear {zs : List Str} {D : Md} {as : List Str} {m : Int} (h : Ro zs D as m) (m1 : 1 ≤ m) {z : Str} (hz : z ∈ as) :
    ∃ r, ClearOk (bkOf zs D) z m r ∧ fallM (bkOf zs D) (r.map fun x => (x, m)) = bkOf zs (fallAll zs D as m) ∧ Gs zs (fallAll zs D as m) ∧ Gb (fallAll zs D as m) := by
  obtain ⟨r, hR, pm⟩ := h.ring hz
  have hzz := h.sub z hz
  have ne : r.map (amtAt zs (duesM (bkOf zs D))) ≠ [] := fun c => by
    have e := List.map_eq_nil_iff.mp c
    have := pm.length_eq
    rw [e] at this
    have := h.l0
    simp at *
    omega
  have hm : m ≤ leastI (r.map (amtAt zs (duesM (bkOf zs D)))) := by
    obtain ⟨h1, _⟩ := least_mem ne
    obtain ⟨y, hy, e⟩ := List.mem_map.mp h1
    rw [← e]
    exact h.amt y (pm.mem_iff.mp hy)
  obtain ⟨g2, gb2, fo, nr, sub⟩ := clear_ok h.g h.gb hzz m1 hR hm
  have ep : fallAll zs D r m = fallAll zs D as m := fallAll_perm h.g.nz.nd h.g.lf nr h.nd sub fun y => pm.mem_iff
  rw [ep] at g2 gb2
  refine ⟨r, ⟨h.g.ok, h.g.closed, hzz, m1, hR, hm, nr, fo⟩, ?_, g2, gb2⟩
  rw [fallAll_eq h.g.nz.nd h.g.lf nr sub, ep]
theorem Ro.at {zs : List Str} {D : Md} {as : List Str} {c m : Int} (h : Ro zs D as c) {y : Str} (hy : y ∈ as) {f : Int} (ef : D.fallen[zs.idxOf y]? = some f) : (fallAll zs D as m).fallen[zs.idxOf y]? = some (f + m) := by
  rw [fallAll_at h.g.nz.nd m as D h.nd h.sub h.g.lf _ y f (idx_get (h.sub y hy)) ef, if_pos hy]
/-- what stays of it -/
theorem Ro.stay {zs : List Str} {D : Md} {as : List Str} {c m : Int} (h : Ro zs D as c) (m1 : 1 ≤ m) (mc : m < c) : Ro zs (fallAll zs D as m) as (c - m) := by
  obtain ⟨_, _, _, g2, gb2⟩ := (h.mono (Int.le_of_lt mc)).clear m1 (rd_mem h.l0 0)
  obtain ⟨_, kn, _⟩ := fallAll_keeps zs m as D
  have st : ∀ y ∈ as, ∃ t b rest l f, D.notes[zs.idxOf y]? = some l ∧ (fallAll zs D as m).fallen[zs.idxOf y]? = some (f + m) ∧ leftN l (f + m) = (t, b - m) :: rest ∧ c ≤ b ∧ nxD zs D y = some t := fun y hy => by
    obtain ⟨l, f, t, b, rest, el, ef, hn, f0, eL, cb, ht⟩ := h.du y hy
    refine ⟨t, b, rest, l, f, el, h.at hy ef, ?_, cb, ht⟩
    rw [left_fall hn f0 (by omega) (by omega) eL, if_pos (by omega)]
    rfl
  refine ⟨g2, gb2, h.nd, h.sub, h.l0, fun i => ?_, fun y hy => ?_⟩
  · have hy := rd_mem h.l0 i
    obtain ⟨t, b, rest, l, f, el, ef, eL, cb, ht⟩ := st _ hy
    have el2 : (fallAll zs D as m).notes[zs.idxOf (Rc.rd as i)]? = some l := by rw [kn]; exact el
    rw [nxD_at h.g.nz.nd (idx_get (h.sub _ hy)) el2 ef, eL]
    have := h.rd i
    rw [ht] at this
    rw [← this]
    rfl
  · obtain ⟨t, b, rest, l, f, el, ef, eL, cb, ht⟩ := st _ hy
    have el2 : (fallAll zs D as m).notes[zs.idxOf y]? = some l := by rw [kn]; exact el
    have eo : (duesM (bkOf zs (fallAll zs D as m))).getD (zs.idxOf y) none = (leftN l (f + m)).head? := getD_of (dues_at (M := bkOf zs (fallAll zs D as m)) el2 ef)
    unfold amtAt
    rw [eo, eL]
    show c - m ≤ b - m
    omega
theorem Ro.cash {zs : List Str} {D : Md} {as : List Str} {m : Int} (h : Ro zs D as m) (m0 : 0 ≤ m) (i : Nat) (y : Str) (ei : zs[i]? = some y) : cashM (bkOf zs (fallAll zs D as m)) i y = cashM (bkOf zs D) i y := by
  obtain ⟨r, hR, pm⟩ := h.ring (rd_mem h.l0 0)
  obtain ⟨p, _, _, _⟩ := ring_perm h.g.walks.ld (h.sub _ (rd_mem h.l0 0)) hR
  have p2 : (as.map (nxD zs D)).Perm (as.map some) := ((pm.map _).symm.trans p).trans (pm.map _)
  rw [fallAll_cash h.g.nz.nd m0 as D h.nd h.sub h.du i y ei, ring_count p2 h.nd y]
  by_cases hy : y ∈ as
  · rw [if_pos hy, if_pos hy]
    simp
  · rw [if_neg hy, if_neg hy]
    simp
/-- paid round: from one who has as much -/
theorem Ro.pays {zs : List Str} {D : Md} {as : List Str} {m : Int} (h : Ro zs D as m) (m1 : 1 ≤ m) (hc : m ≤ cashM (bkOf zs D) (zs.idxOf (Rc.rd as 0)) (Rc.rd as 0)) : Wv (bkOf zs D) (as.map fun y => ("pay", y, m)) (bkOf zs (fallAll zs D as m)) := by
  have lz := h.g.nz.nd
  -- one step
  have step : ∀ j (hj : j < as.length), Gs zs (fallAll zs D (as.take j) m) → Gb (fallAll zs D (as.take j) m) →
      Gs zs (fallAll zs D (as.take (j + 1)) m) ∧ Gb (fallAll zs D (as.take (j + 1)) m) ∧ (bkOf zs (fallAll zs D (as.take j) m)).Ok ∧ m ≤ mostP (bkOf zs (fallAll zs D (as.take j) m)) (zs.idxOf as[j]) as[j] ∧ FallOk (bkOf zs (fallAll zs D (as.take j) m)) [(as[j], m)] ∧
        fallM (bkOf zs (fallAll zs D (as.take j) m)) [(as[j], m)] = bkOf zs (fallAll zs D (as.take (j + 1)) m) := fun j hj g gb => by
    have hm := List.getElem_mem hj
    have hz := h.sub _ hm
    obtain ⟨l, f, t, b, rest, el, ef, hn, f0, eL, cb, ht⟩ := h.du _ hm
    obtain ⟨_, kn, _⟩ := fallAll_keeps zs m (as.take j) D
    have sub2 : ∀ y ∈ as.take j, y ∈ zs := fun y hy => h.sub y (List.mem_of_mem_take hy)
    have nd2 : (as.take j).Nodup := h.nd.sublist (List.take_sublist _ _)
    have nin : as[j] ∉ as.take j := fun z => by
      obtain ⟨k, hk, e⟩ := List.getElem_of_mem z
      rw [List.length_take] at hk
      rw [List.getElem_take] at e
      have := (List.getElem_inj h.nd).mp e
      omega
    have ef2 : (fallAll zs D (as.take j) m).fallen[zs.idxOf as[j]]? = some f := by
      rw [fallAll_at lz m (as.take j) D nd2 sub2 h.g.lf _ _ f (idx_get hz) ef, if_neg nin, Int.add_zero]
    have el2 : (fallAll zs D (as.take j) m).notes[zs.idxOf as[j]]? = some l := by rw [kn]; exact el
    have cs : m ≤ cashM (bkOf zs (fallAll zs D (as.take j) m)) (zs.idxOf as[j]) as[j] := by
      have du2 : DuesOf zs D (nxD zs D) m (as.take j) := fun x hx => h.du x (List.mem_of_mem_take hx)
      rw [fallAll_cash lz (by omega) (as.take j) D nd2 sub2 du2 _ _ (idx_get hz), if_neg nin]
      cases j with
      | zero =>
        have e0 : as[0] = Rc.rd as 0 := by
          have := rd_at hj
          rw [List.getElem?_eq_getElem hj] at this
          exact Option.some.inj this
        rw [← e0] at hc
        simp
        exact hc
      | succ j =>
        have c0 := h.g.cs _ _ (idx_get hz)
        have hlt : j < as.length := by omega
        have hin : as[j] ∈ (as.take (j + 1)).filter fun x => decide (nxD zs D x = some as[j + 1]) := by
          refine List.mem_filter.mpr ⟨?_, decide_eq_true ?_⟩
          · rw [take_succ hlt]
            exact List.mem_append_right _ (List.mem_singleton.mpr rfl)
          · have e1 := rd_at hlt
            have e2 := rd_at hj
            rw [List.getElem?_eq_getElem hlt] at e1
            rw [List.getElem?_eq_getElem hj] at e2
            rw [Option.some.inj e1, Option.some.inj e2]
            exact h.rd j
        have hlen := List.length_pos_of_mem hin
        generalize ((as.take (j + 1)).filter fun x => decide (nxD zs D x = some as[j + 1])).length = n at hlen
        have : m * 1 ≤ m * (n : Int) := Int.mul_le_mul_of_nonneg_left (by omega) (by omega)
        omega
    obtain ⟨g3, fo⟩ := g.fall (idx_get hz) el2 ef2 eL (by omega) cb (.inr cs)
    obtain ⟨w1, _⟩ := fall_one hn f0 (by omega) cb eL
    have eD : fallAll zs D (as.take (j + 1)) m = fellD (fallAll zs D (as.take j) m) (zs.idxOf as[j]) (f + m) := by
      rw [take_succ hj]
      unfold fallAll
      rw [List.foldl_append]
      show fellD _ _ (_ + m) = _
      have e2 : (List.foldl (fun D y => fellD D (zs.idxOf y) (D.fallen.getD (zs.idxOf y) 0 + m)) D (as.take j)).fallen.getD (zs.idxOf as[j]) 0 = f := getD_of ef2
      rw [e2]
    refine ⟨by rw [eD]; exact g3, by rw [eD]; exact gb.fell el2 w1, g.ok, ?_, fo, ?_⟩
    · have eo : (duesM (bkOf zs (fallAll zs D (as.take j) m))).getD (zs.idxOf as[j]) none = some (t, b) := by
        rw [getD_of (dues_at (M := bkOf zs (fallAll zs D (as.take j) m)) el2 ef2), eL]
        rfl
      rw [mostP_some eo]
      split <;> omega
    · rw [eD]
      exact fell_eq lz g.lf (idx_get hz) ef2
  have good : ∀ j, j ≤ as.length → Gs zs (fallAll zs D (as.take j) m) ∧ Gb (fallAll zs D (as.take j) m) := fun j => by
    induction j with
    | zero => exact fun _ => ⟨h.g, h.gb⟩
    | succ j ih =>
      intro hj
      obtain ⟨a, b⟩ := ih (by omega)
      obtain ⟨c, d, _⟩ := step j (by omega) a b
      exact ⟨c, d⟩
  have all : ∀ k j, j + k = as.length → Wv (bkOf zs (fallAll zs D (as.take j) m)) ((as.drop j).map fun y => ("pay", y, m)) (bkOf zs (fallAll zs D as m)) := fun k => by
    induction k with
    | zero =>
      intro j hj
      rw [List.drop_of_length_le (by omega), List.take_of_length_le (by omega)]
      exact .nil _
    | succ k ih =>
      intro j hj
      have hlt : j < as.length := by omega
      obtain ⟨a, b⟩ := good j (by omega)
      obtain ⟨_, _, ok, mm, fo, e⟩ := step j hlt a b
      rw [List.drop_eq_getElem_cons hlt, List.map_cons]
      refine .pay ok (idx_get (h.sub _ (List.getElem_mem hlt))) m1 mm fo ?_
      rw [e]
      exact ih (j + 1) (by omega)
  exact all as.length 0 (by omega)
end Rc

namespace Rc
open PySem PySem.Spec PyProof.Rows L2 RZ
def StAt (H : Hp) (v : V) (p : Str × Str × Int) : Prop := ∃ a, v = .ref a ∧ H a = some (.tup [.str p.1, .str p.2.1, .int p.2.2])
def StsAt (H : Hp) (xs : List V) (W : List (Str × Str × Int)) : Prop := xs.length = W.length ∧ ∀ (i : Nat) (x : V) (p : Str × Str × Int), xs[i]? = some x → W[i]? = some p → StAt H x p
theorem StAt.kt {H H' : Hp} {v : V} {p : Str × Str × Int} (h : StAt H v p) (k : KT H H') : StAt H' v p := by
  obtain ⟨a, e, h⟩ := h
  exact ⟨a, e, k _ _ h trivial⟩
theorem StsAt.kt {H H' : Hp} {xs : List V} {W : List (Str × Str × Int)} (h : StsAt H xs W) (k : KT H H') : StsAt H' xs W := ⟨h.1, fun i x p e1 e2 => (h.2 i x p e1 e2).kt k⟩
theorem StsAt.app {H : Hp} {xs ys : List V} {W V' : List (Str × Str × Int)} (h : StsAt H xs W) (h' : StsAt H ys V') : StsAt H (xs ++ ys) (W ++ V') := by
  refine ⟨by rw [List.length_append, List.length_append, h.1, h'.1], fun i x p e1 e2 => ?_⟩
  have l := h.1
  by_cases hi : i < xs.length
  · rw [List.getElem?_append_left hi] at e1
    rw [List.getElem?_append_left (by omega)] at e2
    exact h.2 i x p e1 e2
  · rw [List.getElem?_append_right (by omega)] at e1
    rw [List.getElem?_append_right (by omega)] at e2
    rw [l] at e1
    exact h'.2 _ x p e1 e2
theorem StsAt.one {H : Hp} {t : Addr} {p : Str × Str × Int} (h : H t = some (.tup [.str p.1, .str p.2.1, .int p.2.2])) : StsAt H [.ref t] [p] := by
  refine ⟨rfl, fun i x q e1 e2 => ?_⟩
  cases i with
  | zero =>
    cases e1
    cases e2
    exact ⟨t, rfl, h⟩
  | succ i => cases e1
end Rc

namespace Rc
open PySem PySem.Spec PyProof.Rows L2 RZ
theorem fnOr {P : Program} {w : World} {K : PySem.W.Frag} {mg : Str → Option Value} {base : Heap} {CX : CXT} {k : Nat} {f : Addr} {fd : FuncData} {ps : List Str} {sp sp' : Sp} (F : FnOk P w K mg base CX k f fd ps sp) (G : FnOk P w K mg base CX k f fd ps sp') :
    FnOk P w K mg base CX k f fd ps (fun vs H Q E => sp vs H Q E ∨ sp' vs H Q E) :=
  ⟨fun vs H Q E h => h.elim (F.len vs H Q E) (G.len vs H Q E), fun A outer s H args us vs Q E hr he hb hv hs => hs.elim (F.run A outer s H args us vs Q E hr he hb hv) (G.run A outer s H args us vs Q E hr he hb hv)⟩
/-! ### == of equal books -/
def rEq1 (K : PySem.W.Frag) (C : Addr) : R2 := fun x y H Q => ∃ a b M, x = .ref a ∧ y = .ref b ∧ BookAt K C H a M ∧ BookAt K C H b M ∧ KeyOk M ∧ ∀ H', Same H H' → Q (.bl true) H'
theorem op_eqB1 {X : Cx} {C f : Addr} {fd : FuncData} {K : PySem.W.Frag} (eK : X.K = K) (G : FnOk X.prog X.w X.K X.mg X.base CX0 2 f fd ["self", "other"] (spEqB X.K C)) (bd : Binds X.K fd ["self", "other"] []) (hm : Meth X.K C "__eq__" f) (hr : Room 2 X.A) : OpR X (compareOp .Eq) (rEq1 K C) := by
  subst eK
  intro pins s σ H x y v u Q I rx ry h
  obtain ⟨a, b, M, rfl, rfl, ha, hb, oM, q⟩ := h
  have G2 : FnOk X.prog X.w X.K X.mg X.base CX0 2 f fd ["self", "other"] (spEq fun a b H => ∃ M, BookAt X.K C H a M ∧ BookAt X.K C H b M ∧ KeyOk M) := G.imp fun vs H Q E h => by
    obtain ⟨a, b, rfl, ⟨M, ha, hb, oM⟩, q⟩ := h
    exact ⟨a, b, M, M, rfl, ha, hb, oM, oM, fun H' s' => by rw [key_eqv oM]; exact q H' s'⟩
  obtain ⟨dx, tn, on, wg, ws, wd, e, _⟩ := ha.ex
  obtain ⟨dx2, tn2, on2, wg2, ws2, wd2, e2, _⟩ := hb.ex
  exact op_eqG (rcG_ins (E := E0) G2 hm.at_ hm.fn bd pass0) hr pins s σ H _ _ v u Q I rx ry ⟨⟨a, b, dx, dx2, _, _, rfl, rfl, e, e2, M, ha, hb, oM⟩, fun H' s' => q H' s'⟩
section
variable {P : Program} {w : World} {K : PySem.W.Frag} {mg : Str → Option Value} {base : Heap}
/-! ### by_weaving -/
abbrev sBWv : Stmt := topS 43
theorem scBWv : FnScope ["book", "weaving", "step"] ["book", "weaving"] (defScope sBWv) := ⟨rfl, rfl, rfl, by decide +kernel, rfl, by decide +kernel, by decide +kernel⟩
def spSt (K : PySem.W.Frag) (C : Addr) : Sp := fun vs H Q E => spStP K C vs H Q E ∨ spStC K C vs H Q E
def spBWv (K : PySem.W.Frag) (C : Addr) : Sp := fun vs H Q _ => ∃ (b l : Addr) (M N : Bk) (xs : List V) (W : List (Str × Str × Int)), vs = [.ref b, .ref l] ∧ BookAt K C H b M ∧ H l = some (.lst xs) ∧ xs.length = W.length ∧ (∀ (i : Nat) (x : V) (p : Str × Str × Int), xs[i]? = some x → W[i]? = some p → StAt H x p) ∧ Wv M W N ∧
  ∀ b' H', Same H H' → BookAt K C H' b' N → Q (.ref b') H'
theorem ok_bwv {f f1 C : Addr} {fd fd1 : FuncData} (F : Fun K "by_weaving" "by_weaving" sBWv f fd) (ST : Has P w K mg base 10 "stepped" ["book", "step"] (spSt K C) f1 fd1) : FnOk P w K mg base CX0 11 f fd ["book", "weaving"] (spBWv K C) := by
  refine F.ok scBWv (fun vs H Q E h => ?_) (fun cdv A outer s H vs Q E hr h => ?_)
  · obtain ⟨_, _, _, _, _, _, rfl, _⟩ := h
    rfl
  · obtain ⟨b, l, M, N, xs, W, rfl, hb, hl, lx, st, wv, q⟩ := h
    refine ⟨_, pss_cons (ps_for PassesOwn.never rfl (pi_list (pv 1)) (pg_name (i := 2) scBWv.nd rfl (.inl rfl))
        (pss_one (ps_set (i := 0) scBWv.nd rfl (.inl rfl) (pe_call ST.ok hr (by rfl) ST.g ST.kp ST.b .nil pass0 (pa_cons (pv 0) (pa_cons (pv 2) pa_nil))))))
      (pss_one (ps_ret (pv 0))), ?_⟩
    refine ⟨.ref l, rfl, l, rfl, ⟨_, .inl (.inl hl)⟩, ?_⟩
    refine for_it (walk_list (K := K) (a := l) (xs := xs)) (fun i σ H' => ∃ b' M' y2, σ = [some (.ref b'), some (.ref l), y2] ∧ Same H H' ∧ BookAt K C H' b' M' ∧ Wv M' (W.drop i) N) ⟨b, M, _, rfl, Same.refl _, hb, wv⟩ (fun i σ H' _ hP => ?_) (fun i x σ H1' H1 hi hP hY => ?_) (fun σ H1 hP => ?_)
    · obtain ⟨_, _, _, _, s1, _⟩ := hP
      exact .inl (.inl (s1 _ _ hl))
    · obtain ⟨rfl, hx⟩ := hY
      obtain ⟨b1, M1, y2, rfl, s1, hb1, w1⟩ := hP
      have hiW : i < W.length := by omega
      obtain ⟨t, rfl, ht⟩ := st i x _ hx (List.getElem?_eq_getElem hiW)
      have ed : W.drop i = W[i] :: W.drop (i + 1) := List.drop_eq_getElem_cons hiW
      rw [ed] at w1
      have ht1 := s1 _ _ ht
      generalize W[i] = pp at w1 ht1
      generalize W.drop (i + 1) = WR at w1
      cases w1 with
      | pay ok ej m1 mm fo h' =>
        refine ⟨.ref b1, rfl, .ref t, rfl, .inl ⟨b1, t, M1, _, _, _, rfl, ht1, hb1, ok, ej, m1, mm, fo, fun b' H2 s2 nb hb2 => ?_⟩⟩
        exact ⟨b', _, _, rfl, s1.trans s2, hb2, h'⟩
      | clear co h' =>
        refine ⟨.ref b1, rfl, .ref t, rfl, .inr ⟨b1, t, M1, _, _, _, rfl, ht1, hb1, co, fun b' H2 s2 nb hb2 => ?_⟩⟩
        exact ⟨b', _, _, rfl, s1.trans s2, hb2, h'⟩
    · obtain ⟨b1, M1, y2, rfl, s1, hb1, w1⟩ := hP
      rw [lx, List.drop_length] at w1
      cases w1
      exact ⟨.ref b1, rfl, q b1 H1 s1 hb1⟩
end
end Rc

namespace Rc
open PySem PySem.Spec PyProof.Rows L2
/-! ### what can be shown -/
structure ShowOk (d : PyData) : Prop where
  sh : d.showable = true
  tp : DictTop d
  dp : d.depth ≤ 20
  ft : (∃ i, d = .int i) ∨ d.shown.length ≤ sizeLine
theorem NiceD.show {d : PyData} {n : Nat} (h : NiceD d n) (hn : n ≤ 8000) : ShowOk d := ⟨h.sh, .inl h.nd, by have := h.dp; omega, nice_fits h hn⟩
theorem nice_text {z : Str} {n : Nat} (hc : ∀ c ∈ z.cps.toList, c < 128) (hl : z.length ≤ n) : NiceD (.str z) n := by
  refine ⟨by simp only [PyData.showable], ?_, by simp only [PyData.hasDict], by simp only [PyData.depth]; omega, ?_, ?_⟩
  · simp only [PyData.leavesShort, List.all_eq_true, decide_eq_true_eq]
    exact fun c h => Nat.lt_trans (hc c h) (by decide)
  · simp only [PyData.bulk]
    exact hl
  · simp only [PyData.canLay0]
    show z.cps.all (fun c => decide (c < 0x110000)) = true
    rw [← Array.all_toList, List.all_eq_true]
    exact fun c h => decide_eq_true (Nat.lt_trans (hc c h) (by decide))
section
variable {X : Cx}
/-- repr, whatever is being handled -/
theorem call_reprU {K : PySem.W.Frag} (eK : X.K = K) (hu : X.A.units + 64 < cLine) (hg : X.A.guards = some []) : CallR X (.builtin "repr") (rRepr K) := by
  subst eK
  intro pins s σ H xs us Q I r h
  obtain ⟨v, d, rfl, hd, hs, ht, hp, hz, q⟩ := h
  obtain ⟨u, rfl, ru⟩ := vals1 r
  obtain ⟨as, rd, nsm⟩ := Dt.reads I d v u hd ru
  have far : ∀ a, u = .ref a → d.shown.length ≤ sizeLine → wpAny (model X.prog X.w) X.A (call (.builtin "repr") [u]) (EP X pins σ Q) X.xe s := by
    rintro a rfl fit
    refine repr_of_reads' rd hs (fun hx => ?_) hg (by omega) (fun _ _ e => e) (fun h' t tk hk => ⟨.str _, H, I.kept hk, ⟨t, rfl⟩, q⟩) fit
    rcases ht with z | z
    · rw [z] at hx; cases hx
    · exact nsm z
  cases hd with
  | non => cases ru; exact PySem.P.repr_of_none ⟨.str _, H, I.tok _, ⟨_, rfl⟩, q⟩
  | bl b => cases ru; exact PySem.P.repr_of_bool ⟨.str _, H, I.tok _, ⟨_, rfl⟩, q⟩
  | int i =>
    obtain ⟨t, rfl⟩ := ru
    exact PySem.P.repr_of_int (by simpa [PyData.showable] using hs) ⟨.str _, H, I.tok _, ⟨_, rfl⟩, by simpa [PyData.shown] using q⟩
  | str x =>
    obtain ⟨t, rfl⟩ := ru
    exact PySem.P.repr_of_str ⟨.str _, H, I.tok _, ⟨_, rfl⟩, by simpa [PyData.shown] using q⟩ (by simpa [PyData.shown] using notInt hz (fun _ z => nomatch z))
  | lst _ _ => exact far _ ru (notInt hz fun _ z => nomatch z)
  | tup _ _ => exact far _ ru (notInt hz fun _ z => nomatch z)
  | dct _ _ _ => exact far _ ru (notInt hz fun _ z => nomatch z)
/-- isinstance(e, c), e the exception of the suite, with fields -/
def rIsX (K : PySem.W.Frag) (D a : Addr) (cls : Value) (d : Option Addr) : List V → Hp → VK → Prop := fun xs H Q => ∃ (c : V) (cv : Value) (b : Bool) (dd : Addr) (fs : List (Str × V)),
  xs = [.ref a, c] ∧ (∀ u, RelV c u → u = cv) ∧ PySem.W.kitOne K (.ref D) cv = some b ∧ cls = .ref D ∧ d = some dd ∧ H dd = some (.xd fs) ∧ Q (.bl b) H
theorem call_isX {K : PySem.W.Frag} {a D : Addr} {oe : Obj} {cls : Value} {d : Option Addr} {pn : List (Addr × Obj)} (eK : X.K = K) (C : ExcC K D) (hz : Zc cls d oe) (hf : ∃ vs, oe.data = .fields vs) : CallR (X.suite a ((a, oe) :: pn)) (.builtin "isinstance") (rIsX K D a cls d) := by
  subst eK
  intro pins s σ H xs us Q I r h
  obtain ⟨c, cv, b, dd, fs, rfl, hcv, e, rfl, rfl, hdd, q⟩ := h
  cases r with
  | cons rx rr =>
    cases rr with
    | cons rt rr =>
      cases rr
      cases rx
      have ec := hcv _ rt
      subst ec
      obtain ⟨hget, _⟩ := I.pin (a, oe) (List.mem_append.mpr (.inl List.mem_cons_self))
      obtain ⟨vs, hv⟩ := hf
      have hx : ObjOk X.prog X.w H s.heap dd (.xd fs) := I.hok dd _ hdd
      obtain ⟨mA, ⟨od, es, ep, hod, _⟩, _⟩ := hx
      have J : PySem.W.InstAt s.heap a oe D (some od) := by
        obtain ⟨h1, h2⟩ := hz
        exact ⟨hget, h1, by unfold PySem.W.notCls; rw [hv] <;> rfl, by rw [h2]; exact hod⟩
      obtain ⟨cdD, hcD, _⟩ := PySem.W.any_some C.hd
      exact PySem.W.kia_one (PySem.W.kitx_exc (by rw [hcD]; rfl) C.hg C.hk C.hs C.ha C.hn C.ht C.hm) I.kIn J e (fun z => nomatch z) fun tk => ⟨.bl b, H, I.kept (t' := tk) fun _ _ z => z, rfl, q⟩
/-- "a" * 9 -/
theorem op_mulA : OpR X (binaryOp .Mult) (fun x y H Q => x = .str "a" ∧ y = .int 9 ∧ Q (.str "aaaaaaaaa") H) := by
  intro pins s σ H x y v u Q I rx ry h
  obtain ⟨rfl, rfl, q⟩ := h
  obtain ⟨t, rfl⟩ := rx
  obtain ⟨t', rfl⟩ := ry
  refine PySem.P.mul_str (by decide) (fun _ _ => by decide) (fun _ _ => by decide +kernel) ?_
  rw [if_neg (by decide), if_neg (by decide)]
  exact ⟨by decide +kernel, ⟨.str "aaaaaaaaa", H, I.tok _, ⟨_, rfl⟩, q⟩⟩
end
/-- BookError, beside NoSuch -/
structure ClsB (K : PySem.W.Frag) (mg : Str → Option Value) (CB CN : Addr) : Prop where
  g : mg "BookError" = some (.ref CB)
  ex : PySem.W.subIn K (.ref CB) (.type "BaseException") = some true
  hd : PySem.W.hasDictIn K CB = true
  ty : PySem.W.typeIn K (.ref CB) = some (.type "type")
  no : PySem.W.subIn K (.ref CN) (.ref CB) = some false
  self : PySem.W.subIn K (.ref CN) (.ref CN) = some true
  kit : PySem.W.kitOne K (.ref CN) (.ref CB) = some false
  kil : PySem.W.kitOne K (.ref CN) (.type "LookupError") = some true
  lk : mg "LookupError" = none
  cl : PySem.W.findIn K (.ref CN) "__class__" = some (some (.builtin "object.__class__"))
  sp : PySem.W.specialIn K (.builtin "object.__class__") "__get__" = some (some (.builtin "getset_descriptor.__get__"))
  tk : PySem.W.takesIn K (.builtin "object.__class__") = some true
  ob : PySem.W.mroIn K CN (.type "object") = some true
section
variable {P : Program} {K : PySem.W.Frag} {mg : Str → Option Value} {CB CN : Addr}
theorem ClsB.exc (B : ClsB K mg CB CN) (N : ClsN P K mg CN) : ExcC K CN := ⟨N.ga, N.gg, N.exC, N.hd, B.cl, B.sp, B.tk, B.ob⟩
theorem ClsB.miss (B : ClsB K mg CB CN) : PySem.W.exmOne K (.ref CN) (.ref CB) = some false := PySem.W.exm_ref B.ex B.hd B.ty B.no
theorem ClsB.hit (B : ClsB K mg CB CN) (N : ClsN P K mg CN) : PySem.W.exmOne K (.ref CN) (.ref CN) = some true := PySem.W.exm_ref N.exC N.hd N.tyC B.self
theorem no_xf (N : ClsN P K mg CN) : XfC K CN := ⟨N.ga, N.gg, N.exC, N.hd⟩
end
end Rc

namespace Rc
open PySem PySem.Spec PyProof.Rows L2 RZ
/-- a step that can be done, those of whom it falls, and what stands then -/
structure CanD (zs : List Str) (D : Md) (wd z : Str) (m : Int) (r : List Str) : Prop where
  hz : z ∈ zs
  m1 : 1 ≤ m
  m58 : m ≤ 10 ^ 58
  kd : (wd = "pay" ∧ r = [z]) ∨ (wd = "clear" ∧ ringM zs (nxD zs D) z = some r)
  nr : r.Nodup
  sub : ∀ y ∈ r, y ∈ zs
  g : Gs zs (fallAll zs D r m)
  gb : Gb (fallAll zs D r m)
  wv : Wv (bkOf zs D) [(wd, z, m)] (bkOf zs (fallAll zs D r m))
theorem mostP_most {zs : List Str} {D : Md} (g : Gs zs D) {z : Str} (hp : 0 < mostP (bkOf zs D) (zs.idxOf z) z) : ∃ n, (duesM (bkOf zs D)).getD (zs.idxOf z) none = some n ∧ mostP (bkOf zs D) (zs.idxOf z) z ≤ n.2 ∧ mostP (bkOf zs D) (zs.idxOf z) z ≤ cashM (bkOf zs D) (zs.idxOf z) z ∧ n.2 ≤ 10 ^ 58 := by
  cases h : (duesM (bkOf zs D)).getD (zs.idxOf z) none with
  | none =>
    rw [mostP_none h] at hp
    omega
  | some n =>
    have gn : 1 ≤ n.2 ∧ n.2 ≤ 10 ^ 58 := (g.due (getD_mem h)).2
    refine ⟨n, rfl, ?_, ?_, gn.2⟩ <;> (rw [mostP_some h]; split <;> omega)
theorem can_pay {zs : List Str} {D : Md} (g : Gs zs D) (gb : Gb D) {z : Str} (hz : z ∈ zs) {m : Int} (m1 : 1 ≤ m) (mm : m ≤ mostP (bkOf zs D) (zs.idxOf z) z) : CanD zs D "pay" z m [z] := by
  obtain ⟨n, hn, h1, h2, h3⟩ := mostP_most g (z := z) (by omega)
  have hj : zs.idxOf z < zs.length := List.idxOf_lt_length_of_mem hz
  have hl1 : zs.idxOf z < D.notes.length := by rw [g.ln]; exact hj
  have hl2 : zs.idxOf z < D.fallen.length := by rw [g.lf]; exact hj
  have el := List.getElem?_eq_getElem hl1
  have ef := List.getElem?_eq_getElem hl2
  have eo : (duesM (bkOf zs D)).getD (zs.idxOf z) none = (leftN D.notes[zs.idxOf z] D.fallen[zs.idxOf z]).head? := getD_of (dues_at (M := bkOf zs D) el ef)
  rw [hn] at eo
  cases hL : leftN D.notes[zs.idxOf z] D.fallen[zs.idxOf z] with
  | nil =>
    rw [hL] at eo
    cases eo
  | cons n' rest =>
    rw [hL] at eo
    have en : n = n' := Option.some.inj eo
    subst en
    have hn1 : ∀ x ∈ D.notes[zs.idxOf z], 1 ≤ x.2 := fun x hx => (g.nt _ (List.getElem_mem hl1) x hx).2.1
    have f0 := g.fl _ (List.getElem_mem hl2)
    obtain ⟨g2, fo⟩ := g.fall (idx_get hz) el ef hL (by omega) (show m ≤ n.2 by omega) (.inr (by omega))
    obtain ⟨w1, _⟩ := fall_one hn1 f0 (show 0 ≤ m by omega) (show m ≤ n.2 by omega) hL
    have e1 : fallAll zs D [z] m = fellD D (zs.idxOf z) (D.fallen[zs.idxOf z] + m) := by
      show fellD D (zs.idxOf z) (D.fallen.getD (zs.idxOf z) 0 + m) = _
      rw [getD_of ef]
    refine ⟨hz, m1, by omega, .inl ⟨rfl, rfl⟩, by simp, fun y hy => by rw [List.mem_singleton.mp hy]; exact hz, by rw [e1]; exact g2, by rw [e1]; exact gb.fell el w1, ?_⟩
    refine .pay g.ok (idx_get hz) m1 mm fo ?_
    rw [fell_eq g.nz.nd g.lf (idx_get hz) ef, e1]
    exact .nil _
theorem can_clear {zs : List Str} {D : Md} (g : Gs zs D) (gb : Gb D) {z : Str} (hz : z ∈ zs) {m : Int} {r : List Str} (m1 : 1 ≤ m) (hR : ringM zs (nxD zs D) z = some r) (mm : m ≤ leastI (r.map (amtAt zs (duesM (bkOf zs D))))) : CanD zs D "clear" z m r := by
  obtain ⟨g2, gb2, fo, nr, sub⟩ := clear_ok g gb hz m1 hR mm
  obtain ⟨_, c58, ec⟩ := ring_pos g hz hR
  refine ⟨hz, m1, by omega, .inr ⟨rfl, hR⟩, nr, sub, g2, gb2, ?_⟩
  refine .clear ⟨g.ok, g.closed, hz, m1, hR, mm, nr, fo⟩ ?_
  rw [fallAll_eq g.nz.nd g.lf nr sub]
  exact .nil _
theorem mostW_can {zs : List Str} {D : Md} (g : Gs zs D) (gb : Gb D) {wd z : Str} (hz : z ∈ zs) (hw : wd = "pay" ∨ wd = "clear") (hp : 0 < mostW zs D wd z) : mostW zs D wd z ≤ 10 ^ 58 ∧ ∀ m, 1 ≤ m → m ≤ mostW zs D wd z → ∃ r, CanD zs D wd z m r := by
  rcases hw with rfl | rfl
  · have e : mostW zs D "pay" z = mostP (bkOf zs D) (zs.idxOf z) z := by
      unfold mostW
      rw [if_pos rfl]
    rw [e] at hp ⊢
    obtain ⟨n, _, h1, _, h3⟩ := mostP_most g hp
    exact ⟨Int.le_trans h1 h3, fun m m1 mm => ⟨[z], can_pay g gb hz m1 mm⟩⟩
  · have e : mostW zs D "clear" z = mostC zs (duesM (bkOf zs D)) z := by
      unfold mostW
      rw [if_neg clear_ne]
    rw [e] at hp ⊢
    cases hR : ringM zs (nxD zs D) z with
    | none =>
      have : ringM zs (nxOf zs (duesM (bkOf zs D))) z = none := hR
      rw [mostC_none this] at hp
      omega
    | some r =>
      have hR' : ringM zs (nxOf zs (duesM (bkOf zs D))) z = some r := hR
      obtain ⟨c0, c58, ec⟩ := ring_pos g hz hR
      rw [mostC_some hR']
      rw [ec] at c0 c58
      exact ⟨c58, fun m m1 mm => ⟨r, can_clear g gb hz m1 hR mm⟩⟩
end Rc

namespace Rc
open PySem PySem.Spec PyProof.Rows L2 RZ
/-! ### deeds at a book of which some has fallen -/
theorem gone_snoc {x : Str × Int} (hx : 1 ≤ x.2) : ∀ {l : List (Str × Int)} {f : Int}, (∀ n ∈ l, 1 ≤ n.2) → 0 ≤ f → f ≤ wholeN l → goneN (l ++ [x]) f = goneN l f
  | [], f, _, f0, fw => by
    have e : wholeN [] = 0 := rfl
    rw [e] at fw
    have e0 : f = 0 := by omega
    subst e0
    obtain ⟨t, a⟩ := x
    have ha : 1 ≤ a := hx
    show goneN [(t, a)] 0 = goneN [] 0
    rw [goneN_cons, goneN_nil, goneN_nil]
    have : partOf a 0 = 0 := by
      unfold partOf
      rw [if_pos (by omega)]
    rw [this, if_neg (by omega)]
    rfl
  | (t, a) :: r, f, h, f0, fw => by
    have h1 : 1 ≤ a := h _ List.mem_cons_self
    have hr : ∀ n ∈ r, 1 ≤ n.2 := fun m hm => h m (List.mem_cons_of_mem _ hm)
    have w0 := wholeN_nonneg hr
    rw [wholeN_cons] at fw
    have fw' : f ≤ a + wholeN r := fw
    show goneN ((t, a) :: (r ++ [x])) f = _
    rw [goneN_cons, goneN_cons]
    have hp : 0 ≤ f - partOf a f ∧ f - partOf a f ≤ wholeN r := by
      unfold partOf
      split <;> omega
    rw [gone_snoc hx hr hp.1 hp.2]
theorem whole_snoc (l : List (Str × Int)) (x : Str × Int) : wholeN (l ++ [x]) = wholeN l + x.2 := by
  unfold wholeN
  rw [List.map_append, List.sum_append]
  simp
structure Bd (D : Md) (k : Nat) : Prop where
  gv : ∀ g ∈ D.given, 0 ≤ g ∧ g ≤ (k : Int) * 10 ^ 58
  my : (D.notes.map List.length).sum ≤ k
theorem Gd.bd {zs : List Str} {D : Md} {k : Nat} (h : Gd zs D k) : Bd D k := ⟨h.gv, h.my⟩
theorem deed_ok {zs : List Str} {D : Md} {k : Nat} {d : Deed} (g : Gs zs D) (gb : Gb D) (bd : Bd D k) (hk : k + 1 ≤ 60) (od : d.Ok zs) : Gs zs (doneD zs D d) ∧ Gb (doneD zs D d) ∧ Bd (doneD zs D d) (k + 1) := by
  have mono : ∀ g ∈ D.given, 0 ≤ g ∧ g ≤ ((k + 1 : Nat) : Int) * 10 ^ 58 := fun g hg => by
    obtain ⟨a, b⟩ := bd.gv g hg
    refine ⟨a, Int.le_trans b (Int.mul_le_mul_of_nonneg_right (by omega) (by decide))⟩
  have le100 : ∀ {x : Int}, x ≤ ((k + 1 : Nat) : Int) * 10 ^ 58 → x ≤ 100 * 10 ^ 58 := fun {x} hx => Int.le_trans hx (Int.mul_le_mul_of_nonneg_right (by omega) (by decide))
  cases d with
  | give z n =>
    obtain ⟨hz, n1, n2⟩ := od
    have hj : zs.idxOf z < D.given.length := by
      rw [g.lg]
      exact List.idxOf_lt_length_of_mem hz
    have b' : Bd (doneD zs D (.give z n)) (k + 1) := by
      refine ⟨fun x hx => ?_, Nat.le_succ_of_le bd.my⟩
      rcases List.mem_or_eq_of_mem_set hx with hx | hx
      · exact mono x hx
      · obtain ⟨a, b⟩ := bd.gv (D.given.getD (zs.idxOf z) 0) (by
          rw [List.getD_eq_getElem?_getD, List.getElem?_eq_getElem hj]
          exact List.getElem_mem hj)
        have e : ((k + 1 : Nat) : Int) * 10 ^ 58 = (k : Int) * 10 ^ 58 + 10 ^ 58 := by
          rw [Int.natCast_add, Int.add_mul]
          rfl
        rw [hx, e]
        omega
    refine ⟨⟨g.nz, g.nt, g.fl, g.my, by show (D.given.set _ _).length = _; rw [List.length_set]; exact g.lg, g.lf, g.ln, fun j y ej => ?_⟩, ⟨fun x hx => ⟨(b'.gv x hx).1, le100 (b'.gv x hx).2⟩, gb.fw⟩, b'⟩
    have c0 := g.cs j y ej
    rw [cash_eq] at c0 ⊢
    unfold cashD at c0 ⊢
    show 0 ≤ (D.given.set (zs.idxOf z) (D.given.getD (zs.idxOf z) 0 + n)).getD j 0 - D.fallen.getD j 0 + sumsD D y
    by_cases e : j = zs.idxOf z
    · subst e
      have : (D.given.set (zs.idxOf z) (D.given.getD (zs.idxOf z) 0 + n)).getD (zs.idxOf z) 0 = D.given.getD (zs.idxOf z) 0 + n := getD_of (List.getElem?_set_self hj)
      rw [this]
      omega
    · have : (D.given.set (zs.idxOf z) (D.given.getD (zs.idxOf z) 0 + n)).getD j 0 = D.given.getD j 0 := by
        rw [List.getD_eq_getElem?_getD, List.getElem?_set_ne (fun z => e z.symm)]
        exact (List.getD_eq_getElem?_getD).symm
      rw [this]
      exact c0
  | put z y n =>
    obtain ⟨hz, hy, n1, n2⟩ := od
    have hj : zs.idxOf z < D.notes.length := by
      rw [g.ln]
      exact List.idxOf_lt_length_of_mem hz
    have hjf : zs.idxOf z < D.fallen.length := by
      rw [g.lf]
      exact List.idxOf_lt_length_of_mem hz
    have el := List.getElem?_eq_getElem hj
    have ef := List.getElem?_eq_getElem hjf
    have e0 : D.notes.getD (zs.idxOf z) [] = D.notes[zs.idxOf z] := getD_of el
    have b' : Bd (doneD zs D (.put z y n)) (k + 1) := by
      refine ⟨mono, ?_⟩
      have := sum_set D.notes (zs.idxOf z) (D.notes.getD (zs.idxOf z) [] ++ [(y, n)]) hj
      rw [List.length_append] at this
      have e1 : [(y, n)].length = 1 := rfl
      have := bd.my
      show ((D.notes.set _ _).map List.length).sum ≤ k + 1
      omega
    have hn1 : ∀ x ∈ D.notes[zs.idxOf z], 1 ≤ x.2 := fun x hx => (g.nt _ (List.getElem_mem hj) x hx).2.1
    have f0 := g.fl _ (List.getElem_mem hjf)
    have fw := gb.fw _ _ _ el ef
    have gs : goneN (D.notes.getD (zs.idxOf z) [] ++ [(y, n)]) D.fallen[zs.idxOf z] = goneN D.notes[zs.idxOf z] D.fallen[zs.idxOf z] := by
      rw [e0]
      exact gone_snoc n1 hn1 f0 fw
    have sm : ∀ q, sumsD (doneD zs D (.put z y n)) q = sumsD D q := fun q => by
      unfold sumsD
      congr 1
      have hl : (D.notes.set (zs.idxOf z) (D.notes.getD (zs.idxOf z) [] ++ [(y, n)])).length = D.notes.length := List.length_set
      refine List.ext_getElem (by show ((List.zip (D.notes.set _ _) D.fallen).map _).length = _; simp) fun i h1 h2 => ?_
      simp only [List.length_map, List.length_zip] at h2
      show (((D.notes.set (zs.idxOf z) (D.notes.getD (zs.idxOf z) [] ++ [(y, n)])).zip D.fallen).map fun p => sumTo q (goneN p.1 p.2))[i]'(by simp; omega) = _
      simp only [List.getElem_map, List.getElem_zip]
      by_cases e : i = zs.idxOf z
      · subst e
        rw [List.getElem_set_self]
        exact congrArg (sumTo q) gs
      · rw [List.getElem_set_ne (fun z => e z.symm)]
    refine ⟨⟨g.nz, fun l hl m hm => ?_, g.fl, Nat.le_trans b'.my hk, g.lg, g.lf, by show (D.notes.set _ _).length = _; rw [List.length_set]; exact g.ln, fun j q ej => ?_⟩, ⟨fun x hx => ⟨(b'.gv x hx).1, le100 (b'.gv x hx).2⟩, fun j l f e1 e2 => ?_⟩, b'⟩
    · rcases List.mem_or_eq_of_mem_set hl with hl | hl
      · exact g.nt l hl m hm
      · rw [hl] at hm
        rcases List.mem_append.mp hm with hm | hm
        · rw [e0] at hm
          exact g.nt _ (List.getElem_mem hj) m hm
        · rw [List.mem_singleton.mp hm]
          exact ⟨hy, n1, n2⟩
    · have c0 := g.cs j q ej
      rw [cash_eq] at c0 ⊢
      unfold cashD at c0 ⊢
      rw [sm]
      exact c0
    · have e1' : (D.notes.set (zs.idxOf z) (D.notes.getD (zs.idxOf z) [] ++ [(y, n)]))[j]? = some l := e1
      have e2' : D.fallen[j]? = some f := e2
      by_cases e : j = zs.idxOf z
      · subst e
        rw [List.getElem?_set_self hj, e0] at e1'
        rw [ef] at e2'
        cases e1'
        cases e2'
        rw [whole_snoc]
        have : 1 ≤ n := n1
        show _ ≤ _ + n
        omega
      · rw [List.getElem?_set_ne (fun z => e z.symm)] at e1'
        exact gb.fw j l f e1' e2'
end Rc

namespace Rc
open PySem PySem.Spec PyProof.Rows L2 RZ
theorem mostP_big {zs : List Str} {D : Md} (g : Gs zs D) (j : Nat) (z : Str) (ej : zs[j]? = some z) : 0 ≤ mostP (bkOf zs D) j z ∧ mostP (bkOf zs D) j z ≤ 10 ^ 58 := by
  have c0 := g.cs j z ej
  cases h : (duesM (bkOf zs D)).getD j none with
  | none =>
    rw [mostP_none h]
    exact ⟨Int.le_refl _, by decide⟩
  | some n =>
    rw [mostP_some h]
    have gn : 1 ≤ n.2 ∧ n.2 ≤ 10 ^ 58 := (g.due (getD_mem h)).2
    split <;> omega
section
variable {P : Program} {w : World} {K : PySem.W.Frag} {mg : Str → Option Value} {base : Heap}
/-! ### _law_drawn -/
abbrev sLDr : Stmt := topS 62
abbrev nLDr : List Str := ["_law_pot_here", "_law_most_here", "_law_many", "_law_size", "_law_names_here", "_law_deeds_here", "_law_model_here", "_law_deed"]
theorem scLDr : FnScope nLDr ["_law_pot_here", "_law_most_here", "_law_many"] (defScope sLDr) := ⟨rfl, rfl, rfl, by decide +kernel, rfl, by decide +kernel, by decide +kernel⟩
def spLDr (K : PySem.W.Frag) (C : Addr) : Sp := fun vs H Q _ => ∃ (p : Addr) (mo my : Int), vs = [.ref p, .int mo, .int my] ∧ Pot H p ∧ 1 ≤ mo ∧ mo ≤ 12 ∧ 1 ≤ my ∧ my ≤ 40 ∧ ∀ zs a D b k T H', Pot H' p → But p H H' → H' T = some (.tup [.ref (MdA.m a), .ref b]) → ModelAt K H' zs a D → BookAt K C H' b (bkOf zs D) → NamesOk zs → Gd zs D k → (k : Int) ≤ my → (∀ c, a.Has c → H c = none) → Q (.ref T) H'
theorem ok_ldr {f fT f1 f2 f3 f4 f5 fI C : Addr} {fd fdT fd1 fd2 fd3 fd4 fd5 fdI : FuncData} (F : Fun K "_law_drawn" "_law_drawn" sLDr f fd) (TK : HasTake P w K mg base fT fdT)
    (LN : Has P w K mg base 3 "_law_names" ["_law_pot_here", "_law_many"] spLNms f1 fd1) (DS : Has P w K mg base 3 "_law_deeds" ["_law_pot_here", "_law_names_here", "_law_many", "_law_size"] (spLDs K) f2 fd2) (MD : Has P w K mg base 1 "_law_model" ["_law_names_here"] (spLMd K) f3 fd3)
    (DN : Has P w K mg base 1 "_law_done" ["_law_model_here", "_law_deed"] (spLDn K) f4 fd4) (BK : Has P w K mg base 7 "_law_booked" ["_law_book", "_law_deeds_here"] (spLBk K C) f5 fd5)
    (M : Mk K C fI) (gC : mg "Book" = some (.ref C)) (GI : FnOk P w K mg base CX0 3 fI fdI ["self", "persons"] (spInit K C)) (bI : Binds K fdI ["self", "persons"] []) : FnOk P w K mg base CX0 8 f fd ["_law_pot_here", "_law_most_here", "_law_many"] (spLDr K C) := by
  refine F.ok scLDr (fun vs H Q E h => ?_) (fun cdv Ar outer s H vs Q E hr h => ?_)
  · obtain ⟨_, _, _, rfl, _⟩ := h
    rfl
  · obtain ⟨p, mo, my, rfl, hp, mo1, mo2, my1, my2, q⟩ := h
    have hr1 := hr.mono (show 1 ≤ 7 by decide)
    have hr3 := hr.mono (show 3 ≤ 7 by decide)
    have hr4 := hr.mono (show 4 ≤ 7 by decide)
    refine ⟨_, pss_cons (ps_set (i := 3) scLDr.nd rfl (.inl rfl) (pe_call TK.ok hr1 (by rfl) TK.g TK.kp TK.b .nil pass0 (pa_cons (pv 0) (pa_cons pe_int pa_nil))))
      (pss_cons (ps_set (i := 4) scLDr.nd rfl (.inl rfl) (pe_call LN.ok hr3 (by rfl) LN.g LN.kp LN.b .nil pass0 (pa_cons (pv 0) (pa_cons (pe_op op_add pe_int (pe_call TK.ok hr1 (by rfl) TK.g TK.kp TK.b .nil pass0 (pa_cons (pv 0) (pa_cons
        (pe_ix ix_list (pe_lst (pa_cons pe_int (pa_cons pe_int (pa_cons (pv 1) pa_nil)))) (pe_call TK.ok hr1 (by rfl) TK.g TK.kp TK.b .nil pass0 (pa_cons (pv 0) (pa_cons pe_int pa_nil))) (fun _ _ => rfl)) pa_nil)))) pa_nil))))
      (pss_cons (ps_set (i := 5) scLDr.nd rfl (.inl rfl) (pe_call DS.ok hr3 (by rfl) DS.g DS.kp DS.b .nil pass0 (pa_cons (pv 0) (pa_cons (pv 4) (pa_cons (pe_op op_add pe_int (pe_call TK.ok hr1 (by rfl) TK.g TK.kp TK.b .nil pass0 (pa_cons (pv 0) (pa_cons (pv 2) pa_nil)))) (pa_cons (pv 3) pa_nil))))))
      (pss_cons (ps_set (i := 6) scLDr.nd rfl (.inl rfl) (pe_call MD.ok hr1 (by rfl) MD.g MD.kp MD.b .nil pass0 (pa_cons (pv 4) pa_nil)))
      (pss_cons (ps_for PassesOwn.never rfl (pi_list (pv 5)) (pg_name (i := 7) scLDr.nd rfl (.inl rfl)) (pss_one (ps_expr (pe_call DN.ok hr1 (by rfl) DN.g DN.kp DN.b .nil pass0 (pa_cons (pv 6) (pa_cons (pv 7) pa_nil))))))
      (pss_one (ps_ret (pe_tup (pa_cons (pv 6) (pa_cons (pe_call BK.ok hr (by rfl) BK.g BK.kp BK.b .nil pass0 (pa_cons (pe_make M GI hr4 (by rfl) gC bI .nil pass0 (pa_cons (pv 4) pa_nil)) (pa_cons (pv 5) pa_nil))) pa_nil))))))))), ?_⟩
    refine ⟨.ref p, rfl, p, 2, rfl, hp, litM _ (by decide) (by decide), fun sz H1 sz0 sz1 hp1 bt1 => ?_⟩
    have hsz : sz = 0 ∨ sz = 1 := by omega
    -- names
    refine ⟨.ref p, rfl, .ref p, rfl, .int mo, rfl, by show 3 ≤ sizeLine; decide, fun l nl => ?_⟩
    have lp : l ≠ p := hp1.ne nl
    refine ⟨.ref p, rfl, p, 3, rfl, hp1.new nl, litM _ (by decide) (by decide), fun u H2 u0 u1 hp2 bt2 => ?_⟩
    have hl2 := bt2 _ _ lp (upd_same (H := H1) (a := l))
    obtain ⟨v, ev, mv⟩ := pick (xs := [V.int 4, V.int 4, V.int mo]) u0 u1
    refine ⟨l, _, _, v, rfl, rfl, .inl (.inl hl2), ev, ?_⟩
    have hv : ∃ m : Int, v = .int m ∧ 1 ≤ m ∧ m ≤ 12 := by
      simp only [List.mem_cons, List.not_mem_nil, or_false] at mv
      rcases mv with rfl | rfl | rfl
      · exact ⟨4, rfl, by decide, by decide⟩
      · exact ⟨4, rfl, by decide, by decide⟩
      · exact ⟨mo, rfl, mo1, mo2⟩
    obtain ⟨m, rfl, m1, m12⟩ := hv
    refine ⟨p, m, rfl, hp2, litM _ (by omega) (by omega), fun t H3 t0 t1 hp3 bt3 => ⟨1, t, rfl, rfl, ?_⟩⟩
    obtain ⟨mn, emn⟩ : ∃ mn : Nat, 1 + t = (mn : Nat) := ⟨(1 + t).toNat, by rw [Int.toNat_of_nonneg (by omega)]⟩
    refine ⟨p, mn, congrArg (fun z => [V.ref p, V.int z]) emn, hp3, by omega, fun r zs H4 nr rp hr4' lzs nd nm hp4 bt4 => ?_⟩
    have nz : NamesOk zs := ⟨by omega, by omega, nd, nm⟩
    have lz := nz.n1
    have bt04 : But p H H4 := bt1.trans ((But.new nl).trans (bt2.trans (bt3.trans bt4)))
    -- deeds
    refine ⟨.ref p, rfl, .ref r, rfl, .ref p, rfl, .int my, rfl, p, my, rfl, hp4, litM _ (by omega) (by omega), fun dn H5 dn0 dn1 hp5 bt5 => ⟨1, dn, rfl, rfl, .int sz, rfl, ?_⟩⟩
    obtain ⟨dm, edm⟩ : ∃ dm : Nat, 1 + dn = (dm : Nat) := ⟨(1 + dn).toNat, by rw [Int.toNat_of_nonneg (by omega)]⟩
    refine ⟨p, r, zs, dm, sz, congrArg (fun z => [V.ref p, V.ref r, V.int z, V.int sz]) edm, hsz, hp5, rp, bt5 _ _ rp hr4', nz.n0, by omega, by omega, fun dl xs ds H6 ndl dlp hdl dd lds ods hp6 bt6 => ?_⟩
    have hr6' := bt6 _ _ rp (bt5 _ _ rp hr4')
    have bt06 : But p H H6 := bt04.trans (bt5.trans bt6)
    have lx : xs.length = ds.length := by
      rw [dd.len]
      unfold deedsD
      rw [List.length_map]
    -- the model
    refine ⟨.ref r, rfl, r, zs, rfl, hr6', nz.nd, by omega, fun a H7 s7 na hM7 => ?_⟩
    have nap : ¬ a.Has p := fun h => by
      obtain ⟨px, py, pe, _⟩ := hp6
      have := na p h
      rw [pe] at this
      cases this
    have naH : ∀ c, a.Has c → H c = none := fun c hc => by
      cases e : H c with
      | none => rfl
      | some o =>
        have := bt06 c o (fun z => nap (z ▸ hc)) e
        rw [na c hc] at this
        cases this
    have naf : ∀ {c : Addr} {o : HO}, H6 c = some o → ¬ a.Foot c := fun {c o} e h => by
      have := na c h.has
      rw [e] at this
      cases this
    have hd7 := s7 _ _ hdl
    refine ⟨.ref dl, rfl, dl, rfl, ⟨_, .inl (.inl hd7)⟩, ?_⟩
    refine for_it (walk_list (K := K) (a := dl) (xs := xs)) (fun i σ H' => ∃ y7, σ = [some (.ref p), some (.int mo), some (.int my), some (.int sz), some (.ref r), some (.ref dl), some (.ref a.m), y7] ∧ ButF a H7 H' ∧ ModelAt K H' zs a (mdAt zs (ds.take i)))
      ⟨_, rfl, fun _ _ _ e => e, hM7⟩ (fun i σ H' _ hP => ?_) (fun i y σ H8' H8 hi hP hY => ?_) (fun σ H8 hP => ?_)
    · obtain ⟨_, _, bf, _⟩ := hP
      exact .inl (.inl (bf _ _ (naf hdl) hd7))
    · obtain ⟨rfl, hx⟩ := hY
      obtain ⟨y7, rfl, bf8, hM8⟩ := hP
      have hid : i < ds.length := by omega
      have okd := ods _ (List.getElem_mem hid)
      obtain ⟨v', gx, dx0⟩ := dd.get (n := i) (d := deedD ds[i]) (map_get (List.getElem?_eq_getElem hid))
      rw [hx] at gx
      cases gx
      have dx8 : Dt K H8 y (deedD ds[i]) := Dt.keepT ((kt_same s7).trans (bf8.kt hM7)) _ (tup_deed _) dx0
      have gdi := md_at_good (zs := zs) (ds := ds.take i) (fun d hd => ods d (List.mem_of_mem_take hd)) (by rw [List.length_take]; omega)
      refine ⟨.ref a.m, rfl, y, rfl, a, _, zs, y, ds[i], rfl, hM8, dx8, okd, by omega, gdi.rows, fun H9 bf9 hM9 => ?_⟩
      have eDn : mdAt zs (ds.take (i + 1)) = doneD zs (mdAt zs (ds.take i)) ds[i] := by
        unfold mdAt
        rw [take_succ hid, List.foldl_append]
        rfl
      rw [eDn]
      exact ⟨_, rfl, fun b o n e => bf9 b o n (bf8 b o n e), hM9⟩
    · obtain ⟨y7, rfl, bf8, hM8⟩ := hP
      rw [lx, List.take_length] at hM8
      have gd := md_at_good (zs := zs) (ds := ds) ods (by omega)
      have hr8 := bf8 _ _ (naf hr6') (s7 _ _ hr6')
      have hd8 := bf8 _ _ (naf hdl) hd7
      have hp8 : Pot H8 p := by
        obtain ⟨px, py, pe, pr⟩ := hp6
        exact ⟨px, py, bf8 _ _ (naf pe) (s7 _ _ pe), pr⟩
      have bt08 : But p H H8 := fun c o n e => by
        have e6 := bt06 c o n e
        exact bf8 _ _ (naf e6) (s7 _ _ e6)
      have kt68 : KT H6 H8 := (kt_same s7).trans (bf8.kt hM7)
      have dd8 : DtAll K H8 xs (deedsD ds) := DtAll.keepT kt68 _ (tup_deeds ds) dd
      refine ⟨.ref a.m, rfl, .ref r, rfl, fun x dy nx ndy nxy => ?_⟩
      have s9 : Same H8 (upd (upd H8 dy (.own x)) x (.ins C dy [])) := fun c o e => by
        rw [upd_ne (ne_of_none e nx), upd_ne (ne_of_none e ndy)]
        exact e
      refine ⟨x, dy, r, zs, rfl, upd_same, s9 _ _ hr8, nz, fun H10 b10 bk => ⟨rfl, ?_⟩⟩
      have s810 : Same H8 H10 := fun c o e => b10 c o (ne_of_none e nx) (s9 c o e)
      have b0 : BookAt K C H10 x (bkOf zs (newMd zs.length)) := bk
      have ok0 := (Gd.new (zs := zs)).ok nz List.length_replicate List.length_replicate
      have my0 : manyM (bkOf zs (newMd zs.length)) ≤ 0 := (Gd.new (zs := zs)).my
      refine ⟨.ref dl, rfl, x, _, dl, xs, ds, rfl, b0, ok0, s810 _ _ hd8, DtAll.same s810 _ dd8, ods, by omega, fun b' H11 s11 hb11 => ⟨by show 2 ≤ sizeLine; decide, fun T' nT => ?_⟩⟩
      rw [fold_eq] at hb11
      have hb11' : BookAt K C H11 b' (bkOf zs (mdAt zs ds)) := hb11
      have s811 := s810.trans s11
      have sT := same_upd (o := .tup [.ref a.m, .ref b']) nT
      exact q zs a (mdAt zs ds) b' _ T' _ (hp8.same (s811.trans sT)) (bt08.trans (same_but (s811.trans sT))) upd_same (model_same hM8 (s811.trans sT)) (book_same hb11' sT) nz gd (by omega) naH
end
end Rc

namespace Rc
open PySem PySem.Spec PyProof.Rows L2 RZ
theorem FnOk.up {P : Program} {w : World} {K : PySem.W.Frag} {mg : Str → Option Value} {base : Heap} {CX : CXT} {k : Nat} {f : Addr} {fd : FuncData} {ps : List Str} {sp : Sp} (F : FnOk P w K mg base CX0 k f fd ps sp) : FnOk P w K mg base CX k f fd ps sp :=
  ⟨F.len, fun A outer s H args us vs Q E hr he hb hv hs => PySem.codeAny_mono (F.run A outer s H args us vs Q E hr he hb hv hs) fun r s' h => by
    cases r with
    | ok c => cases c <;> exact h
    | error e => exact h.elim⟩
/-! ### TooMuch -/
abbrev sTMu : Stmt := inClass (topS 9) 0
theorem txTMu : EX.Txt sTMu ["who", "most"] :=
  ⟨by simp, by decide, rfl, rfl, rfl, by decide +kernel, rfl, rfl, rfl, fun f hf => by
      rcases List.mem_cons.mp hf with rfl | hf
      · exact ⟨rfl, by decide, by decide⟩
      · obtain rfl := List.mem_singleton.mp hf
        exact ⟨rfl, by decide, by decide⟩, by decide, ⟨_, rfl, rfl⟩,
    fun _ _ _ _ _ _ _ _ vs hl => match vs, hl with | [v, u], _ => rfl, ⟨_, _, _, _, _, _, _, _, rfl, ⟨_, fun _ => rfl⟩, .cons (.cons .nil)⟩⟩
abbrev ClsT (P : Program) (K : PySem.W.Frag) (mg : Str → Option Value) (CT : Addr) : Prop :=
  EX.Cx' P K mg "TooMuch" sTMu ["who", "most"] "RuntimeError" "RuntimeError.__new__" "RuntimeError.__init__" [.type "RuntimeError", .type "Exception", .type "BaseException", .type "object"] CT
section
variable {P : Program} {w : World} {K : PySem.W.Frag} {mg : Str → Option Value} {base : Heap}
def ETM (CT : Addr) (E : XK) (H : Hp) (z : Str) (n : Int) : Prop := ∀ H' dd, Same H H' → H dd = none → H' dd = some (.xd [("most", .int n), ("who", .str z)]) → E (.ref CT) (some dd) H'
theorem ETM.same {CT : Addr} {E : XK} {H H1 : Hp} {z : Str} {n : Int} (h : ETM CT E H z n) (s : Same H H1) : ETM CT E H1 z n := fun H' dd s1 nd hd => h H' dd (s.trans s1) (s.free nd) hd
def spPyX (K : PySem.W.Frag) (C CT : Addr) : Sp := fun vs H _ E => ∃ (b : Addr) (M : Bk) (z : Str) (j : Nat) (m : Int), vs = [.ref b, .str z, .int m] ∧ BookAt K C H b M ∧ M.Ok ∧ M.names[j]? = some z ∧ 1 ≤ m ∧ mostP M j z < m ∧ ETM CT E H z (mostP M j z)
theorem no_payO {f f1 f2 C CT : Addr} {fd fd1 fd2 : FuncData} (F : Fun K "pay_on" "pay_on" sPayO f fd) (N : ClsT P K mg CT) (MP : Has P w K mg base 7 "most_to_pay" ["book", "who"] (spCalc K C mostP) f1 fd1) (CA : Has P w K mg base 3 "check_amount" ["amount"] (spCheckA K) f2 fd2) :
    FnOk P w K mg base (L2.CX P w) 8 f fd ["book", "who", "amount"] (spPyX K C CT) := by
  refine F.okX scPayO (fun vs H Q E h => ?_) (fun cdv A outer s H vs Q E hr h => ?_)
  · obtain ⟨_, _, _, _, _, rfl, _⟩ := h
    rfl
  obtain ⟨b, M, z, j, m, rfl, hb, ok, ej, m1, mm, q⟩ := h
  refine ⟨_, pss_cons (ps_set (i := 3) scPayO.nd rfl (.inl rfl) (pe_call MP.ok hr (by rfl) MP.g MP.kp MP.b .nil pass0 (pa_cons (pv 0) (pa_cons (pv 1) pa_nil))))
      (pss_cons (ps_expr (pe_call CA.ok (hr.mono (by decide)) (by rfl) CA.g CA.kp CA.b .nil pass0 (pa_cons (pv 2) pa_nil)))
      (pss_cons (ps_if (pt_cmpR op_gt (pv 2) (pv 3) (nomark _)) (pss_one (ps_raise rfl (takes_of rfl rfl rfl rfl) (pmk_ex N txTMu EX.base_Runtime hr (pa_cons (pv 1) (pa_cons (pv 3) pa_nil)) (by rfl)))) pss_nil) pss_never)), ?_⟩
  refine ⟨.ref b, rfl, .str z, rfl, b, M, z, j, rfl, hb, ok, ej, fun H1 s1 => ⟨.int m, rfl, m, rfl, m1, fun H2 s2 => ⟨.int m, rfl, _, rfl, _, _, rfl, rfl, _, rfl, ?_⟩⟩⟩
  rw [show decide (mostP M j z < m) = true from decide_eq_true mm]
  have s12 := s1.trans s2
  refine iteT ⟨.str z, rfl, .int _, rfl, rfl, fun dd nd => ?_⟩
  exact q _ dd (s12.trans (same_upd nd)) (s12.free nd) upd_same
def spClX (K : PySem.W.Frag) (C CT : Addr) : Sp := fun vs H _ E => ∃ (b : Addr) (M : Bk) (z : Str) (m : Int) (r : List Str), vs = [.ref b, .str z, .int m] ∧ BookAt K C H b M ∧ M.Ok ∧ Closed M ∧ z ∈ M.names ∧ ringM M.names (nxM M) z = some r ∧ 1 ≤ m ∧ leastI (r.map (amtAt M.names (duesM M))) < m ∧ ETM CT E H z (leastI (r.map (amtAt M.names (duesM M))))
theorem no_clR {f f1 f2 f3 C CT : Addr} {fd fd1 fd2 fd3 : FuncData} (F : Fun K "clear_ring" "clear_ring" sClR f fd) (N : ClsT P K mg CT) (RO : Has P w K mg base 8 "ring_of" ["book", "who"] (spRgO K C) f1 fd1) (CA : Has P w K mg base 3 "check_amount" ["amount"] (spCheckA K) f2 fd2)
    (LD : Has P w K mg base 7 "least_due" ["book", "ring"] (spLeD K C) f3 fd3) : FnOk P w K mg base (L2.CX P w) 9 f fd ["book", "who", "amount"] (spClX K C CT) := by
  refine F.okX scClR (fun vs H Q E h => ?_) (fun cdv A outer s H vs Q E hr h => ?_)
  · obtain ⟨_, _, _, _, _, rfl, _⟩ := h
    rfl
  obtain ⟨b, M, z, m, r, rfl, hb, ok, cl, hz, hR, m1, mm, q⟩ := h
  have hr7 := hr.mono (show 7 ≤ 8 by decide)
  refine ⟨_, pss_cons (ps_set (i := 3) scClR.nd rfl (.inl rfl) (pe_call RO.ok hr (by rfl) RO.g RO.kp RO.b .nil pass0 (pa_cons (pv 0) (pa_cons (pv 1) pa_nil))))
      (pss_cons (ps_expr (pe_call CA.ok (hr.mono (by decide)) (by rfl) CA.g CA.kp CA.b .nil pass0 (pa_cons (pv 2) pa_nil)))
      (pss_cons (ps_if (pt_cmpR op_isN (pv 3) pe_non (nomark _)) pss_never pss_nil)
      (pss_cons (ps_set (i := 4) scClR.nd rfl (.inl rfl) (pe_call LD.ok hr7 (by rfl) LD.g LD.kp LD.b .nil pass0 (pa_cons (pv 0) (pa_cons (pv 3) pa_nil))))
      (pss_cons (ps_if (pt_cmpR op_gt (pv 2) (pv 4) (nomark _)) (pss_one (ps_raise rfl (takes_of rfl rfl rfl rfl) (pmk_ex N txTMu EX.base_Runtime hr (pa_cons (pv 1) (pa_cons (pv 4) pa_nil)) (by rfl)))) pss_nil) pss_never)))), ?_⟩
  obtain ⟨h1, h2, h3⟩ := ring_least ok cl hz hR
  refine ⟨.ref b, rfl, .str z, rfl, b, M, z, rfl, hb, ok, cl, hz, fun v H1 s1 rv => ?_⟩
  rw [hR] at rv
  obtain ⟨a, rfl, na, ha⟩ := rv
  refine ⟨.int m, rfl, m, rfl, m1, fun H2 s2 => ⟨.ref a, rfl, rfl, _, rfl, ?_⟩⟩
  rw [decide_eq_false (fun c => by cases c)]
  have s12 := s1.trans s2
  have ha2 := s2 _ _ ha
  refine iteF ⟨.ref b, rfl, .ref a, rfl, b, a, M, r, rfl, book_same hb s12, ok, ha2, h1, h2, h3, fun H3 s3 => ⟨.int m, rfl, _, rfl, _, _, rfl, rfl, _, rfl, ?_⟩⟩
  rw [show decide (leastI (r.map (amtAt M.names (duesM M))) < m) = true from decide_eq_true mm]
  have s13 := s12.trans s3
  refine iteT ⟨.str z, rfl, .int _, rfl, rfl, fun dd nd => ?_⟩
  exact q _ dd (s13.trans (same_upd nd)) (s13.free nd) upd_same
end
end Rc

namespace Rc
open PySem PySem.Spec PyProof.Rows L2 RZ
/-! ### NoRing -/
abbrev sNoR : Stmt := inClass (topS 7) 0
theorem txNoR : EX.Txt sNoR ["who"] :=
  ⟨by simp, by decide, rfl, rfl, rfl, by decide +kernel, rfl, rfl, rfl, fun f hf => by
      obtain rfl := List.mem_singleton.mp hf
      exact ⟨rfl, by decide, by decide⟩, by decide, ⟨_, rfl, rfl⟩,
    fun _ _ _ _ _ _ _ _ vs hl => match vs, hl with | [v], _ => rfl, ⟨_, _, _, _, _, _, _, _, rfl, ⟨_, fun _ => rfl⟩, .cons .nil⟩⟩
abbrev ClsR (P : Program) (K : PySem.W.Frag) (mg : Str → Option Value) (CR : Addr) : Prop :=
  EX.Cx' P K mg "NoRing" sNoR ["who"] "LookupError" "LookupError.__new__" "LookupError.__init__" [.type "LookupError", .type "Exception", .type "BaseException", .type "object"] CR

section
variable {X : Cx} {CX : CXT} {k : Nat} {f : Addr} {fd : FuncData} {ps : List Str} {sp : Sp} {E : L2.St → XK} {x : Str} {p pos : Pos} {e : Expr} {es : List Expr} {t : TA}
theorem run_fnSD {ds : List Value} {dvs : List V} {pins : List (Addr × Obj)} {σ : L2.St} {H : Hp} {s : Shared} {Q : VK} {us : List Value} {vs : List V} (F : FnOk X.prog X.w X.K X.mg X.base CX k f fd ps sp) (hr : Room k X.A) (hb : Binds X.K fd ps ds) (hd : Vals dvs ds) (hx : PassesAt CX X σ (E σ))
    (I : Inv X pins σ H s) (r : Vals vs us) (h : sp (vs ++ dvs) H Q (E σ)) : wpAny (model X.prog X.w) X.A (call (.ref f) us) (EP X pins σ Q) X.xe s := by
  have r2 : Vals (vs ++ dvs) (us ++ ds) := r.append hd
  have hl : (us ++ ds).length = ps.length := by rw [← r2.length]; exact F.len _ _ _ _ h
  refine wpAny_call (codeAny_mono (F.run X.A X.stack s H ⟨us, []⟩ (us ++ ds) (vs ++ dvs) Q (E σ) hr I.env0 (hb s us I.kIn hl) r2 h) fun r s' hq => ?_)
  cases r with
  | error e => exact hx pins H s e s' I hq
  | ok fl =>
    cases fl with
    | ret u => exact I.after hq
    | next => exact False.elim hq
    | brk => exact False.elim hq
    | cont => exact False.elim hq
def tCallSD (sp : Sp) (dvs : List V) (E : L2.St → XK) (t : TA) : TE := fun σ H Q => t σ H fun vs H1 => sp (vs ++ dvs) H1 Q (E σ)
theorem pe_callSD {ds : List Value} {dvs : List V} (F : FnOk X.prog X.w X.K X.mg X.base CX k f fd ps sp) (hr : Room k X.A) (hg : Gl X x) (hm : X.mg x = some (.ref f)) (hk : PySem.W.keepIn X.K (.ref f) = true) (hb : Binds X.K fd ps ds) (hd : Vals dvs ds) (hx : ∀ σ, PassesAt CX X σ (E σ))
    (ha : PA X (e :: es) t) (hdb : (x == ("__debug__" : Str)) = false := by decide) (he : starEach (e :: es) X.env = (false, eval e X.env) :: starEach es X.env := by rfl) (hpl : (backTo pos (starEach es X.env)).any (·.1) = false := by rfl) :
    PE X (.Call (.Name x p) (e :: es) [] pos) (tCallSD sp dvs E t) := by
  refine ⟨fun pins s σ H Q I h => ?_⟩
  refine wpAny_Call_Name_kw (ld_glob I hg hm ?_ hdb)
  refine PySem.W.callWith_K (h₀ := X.base) I.ok.mod.kin hk (thn (ha.run pos pins s σ H _ I h) fun us s1 ⟨vs, H1, I1, r, q⟩ => ⟨I1.kIn, ?_⟩) he hpl
  exact run_fnSD F hr hb hd (hx σ) I1 r q
end
/-- TooMuch, NoRing beside each other -/
structure ClsTR (K : PySem.W.Frag) (CT CR : Addr) : Prop where
  tt : PySem.W.subIn K (.ref CT) (.ref CT) = some true
  rr : PySem.W.subIn K (.ref CR) (.ref CR) = some true
  no : PySem.W.subIn K (.ref CT) (.ref CR) = some false
section
variable {P : Program} {w : World} {K : PySem.W.Frag} {mg : Str → Option Value} {base : Heap}
theorem nr_xf {CR : Addr} (N : ClsR P K mg CR) : XfC K CR := ⟨N.ga, N.gg, N.exC, N.hd⟩
theorem tt_xf {CT : Addr} (N : ClsT P K mg CT) : XfC K CT := ⟨N.ga, N.gg, N.exC, N.hd⟩
theorem ClsTR.hitT {CT CR : Addr} (B : ClsTR K CT CR) (N : ClsT P K mg CT) : PySem.W.exmOne K (.ref CT) (.ref CT) = some true := PySem.W.exm_ref N.exC N.hd N.tyC B.tt
theorem ClsTR.hitR {CT CR : Addr} (B : ClsTR K CT CR) (N : ClsR P K mg CR) : PySem.W.exmOne K (.ref CR) (.ref CR) = some true := PySem.W.exm_ref N.exC N.hd N.tyC B.rr
theorem ClsTR.miss {CT CR : Addr} (B : ClsTR K CT CR) (N : ClsR P K mg CR) : PySem.W.exmOne K (.ref CT) (.ref CR) = some false := PySem.W.exm_ref N.exC N.hd N.tyC B.no
def ENR (CR : Addr) (E : XK) (H : Hp) (z : Str) : Prop := ∀ H' dd, Same H H' → H dd = none → H' dd = some (.xd [("who", .str z)]) → E (.ref CR) (some dd) H'
/-- a clear of one in no ring -/
def spClN (K : PySem.W.Frag) (C CR : Addr) : Sp := fun vs H _ E => ∃ (b : Addr) (M : Bk) (z : Str) (m : Int), vs = [.ref b, .str z, .int m] ∧ BookAt K C H b M ∧ M.Ok ∧ Closed M ∧ z ∈ M.names ∧ ringM M.names (nxM M) z = none ∧ 1 ≤ m ∧ ENR CR E H z
theorem no_clN {f f1 f2 C CR : Addr} {fd fd1 fd2 : FuncData} (F : Fun K "clear_ring" "clear_ring" sClR f fd) (N : ClsR P K mg CR) (RO : Has P w K mg base 8 "ring_of" ["book", "who"] (spRgO K C) f1 fd1) (CA : Has P w K mg base 3 "check_amount" ["amount"] (spCheckA K) f2 fd2) :
    FnOk P w K mg base (L2.CX P w) 9 f fd ["book", "who", "amount"] (spClN K C CR) := by
  refine F.okX scClR (fun vs H Q E h => ?_) (fun cdv A outer s H vs Q E hr h => ?_)
  · obtain ⟨_, _, _, _, rfl, _⟩ := h
    rfl
  obtain ⟨b, M, z, m, rfl, hb, ok, cl, hz, hR, m1, q⟩ := h
  refine ⟨_, pss_cons (ps_set (i := 3) scClR.nd rfl (.inl rfl) (pe_call RO.ok hr (by rfl) RO.g RO.kp RO.b .nil pass0 (pa_cons (pv 0) (pa_cons (pv 1) pa_nil))))
      (pss_cons (ps_expr (pe_call CA.ok (hr.mono (by decide)) (by rfl) CA.g CA.kp CA.b .nil pass0 (pa_cons (pv 2) pa_nil)))
      (pss_cons (ps_if (pt_cmpR op_isN (pv 3) pe_non (nomark _)) (pss_one (ps_raise rfl (takes_of rfl rfl rfl rfl) (pmk_ex N txNoR EX.base_Lookup hr (pa_cons (pv 1) pa_nil) (by rfl)))) pss_nil) pss_never)), ?_⟩
  refine ⟨.ref b, rfl, .str z, rfl, b, M, z, rfl, hb, ok, cl, hz, fun v H1 s1 rv => ?_⟩
  rw [hR] at rv
  obtain rfl : v = .non := rv
  refine ⟨.int m, rfl, m, rfl, m1, fun H2 s2 => ⟨.non, rfl, rfl, _, rfl, ?_⟩⟩
  rw [decide_eq_true rfl]
  have s12 := s1.trans s2
  refine iteT ⟨.str z, rfl, rfl, fun dd nd => ?_⟩
  exact q _ dd (s12.trans (same_upd nd)) (s12.free nd) upd_same
/-- either -/
def spClE (K : PySem.W.Frag) (C CT CR : Addr) : Sp := fun vs H Q E => spClX K C CT vs H Q E ∨ spClN K C CR vs H Q E
/-! ### who is no person -/
theorem no_due {f f1 C CN : Addr} {fd fd1 : FuncData} (F : Fun K "due_of" "due_of" sDue f fd) (T : ClsF K C) (PI' : HasMX P w K mg base C 5 "pile" ["self", "who"] (spNo K C CN) f1 fd1) : FnOk P w K mg base (L2.CX P w) 6 f fd ["book", "who"] (spNo K C CN) := by
  refine F.okX scDue spNo_len (fun cdv A outer s H vs Q E hr h => ?_)
  obtain ⟨b, M, v, d, rfl, hb, ok, hv, hs, hn, q⟩ := h
  refine ⟨_, pss_cons (ps_set (i := 2) scDue.nd rfl (.inl rfl) (pe_meth (pv 0) T.cl PI'.m PI'.ok hr PI'.b .nil (passes_call (takes_of rfl rfl rfl rfl) fun _ _ _ _ z => z) (pa_cons (pv 1) pa_nil))) pss_never, ?_⟩
  obtain ⟨dx, tn, on, wg, ws, wd, e, h1, hn', h2, h3, h4⟩ := hb.ex
  exact ⟨.ref b, rfl, b, dx, _, rfl, e, bf_no (NoF.mk' (by decide +kernel)), v, rfl, b, M, v, d, rfl, hb, ok, hv, hs, hn, q⟩
theorem no_mtp {f f1 C CN : Addr} {fd fd1 : FuncData} (F : Fun K "most_to_pay" "most_to_pay" sMtP f fd) (DU : HasX P w K mg base 6 "due_of" ["book", "who"] (spNo K C CN) f1 fd1) : FnOk P w K mg base (L2.CX P w) 7 f fd ["book", "who"] (spNo K C CN) := by
  refine F.okX scMtP spNo_len (fun cdv A outer s H vs Q E hr h => ?_)
  obtain ⟨b, M, v, d, rfl, hx⟩ := h
  exact ⟨_, pss_cons (ps_set (i := 2) scMtP.nd rfl (.inl rfl) (pe_call DU.ok hr (by rfl) DU.g DU.kp DU.b .nil (passes_call (takes_of rfl rfl rfl rfl) fun _ _ _ _ z => z) (pa_cons (pv 0) (pa_cons (pv 1) pa_nil)))) pss_never, .ref b, rfl, v, rfl, b, M, v, d, rfl, hx⟩
end
end Rc

set_option pp.maxSteps 700
namespace Rc
open PySem PySem.Spec PyProof.Rows L2
/-! ### methods within a try; exceptions without fields -/
section
variable {X : Cx} {CX : CXT} {k : Nat} {f C : Addr} {fd : FuncData} {ps : List Str} {sp : Sp} {E : L2.St → XK} {m : Str} {pos apos : Pos} {e o : Expr} {es : List Expr} {ta : TE} {t : TA}
def tMethP (C : Addr) (m : Str) (sp : Sp) (E : L2.St → XK) (ta : TE) (t : TA) : TE := fun σ H Q => ta σ H fun x H1 => ∃ a dx fs, x = .ref a ∧ H1 a = some (.ins C dx fs) ∧ fs.lookup m = none ∧ t σ H1 fun vs H2 => sp (x :: vs) H2 Q (E σ)
theorem pe_methP {pl : Sem Bool} (he : PE X o ta) (c : Cls X.K C) (hm : Meth X.K C m f) (F : FnOk X.prog X.w X.K X.mg X.base CX k f fd ps sp) (hr : Room k X.A) (hb : Binds X.K fd ps []) (hx : ∀ σ, PassesAt CX X σ (E σ)) (ha : PA X (e :: es) t)
    (hst : starEach (e :: es) X.env = (false, eval e X.env) :: starEach es X.env := by rfl) (hpl : (backTo pos (starEach es X.env)).any (·.1) = false := by rfl)
    (ht : eval (.Call (.Attribute o m apos) (e :: es) [] pos) X.env = (do
      let ov ← eval o X.env
      standAt apos.atName
      let (f, first) ← holding [ov] (getMethod ov m pl)
      callWith pos f first (backTo pos (starEach (e :: es) X.env)) (backToKw pos (keywordEach [] X.env))) := by rfl) :
    PE X (.Call (.Attribute o m apos) (e :: es) [] pos) (tMethP C m sp E ta t) := by
  refine ⟨fun pins s σ H Q I h => ?_⟩
  refine PySem.W.methodCall_KW (pl := pl) (thn (he.run pins s σ H _ I h) fun u s1 ⟨x, H1, I1, rx, a, dx, fs, ex, ea, l, q⟩ => ?_) ht
  subst ex
  obtain rfl : u = Value.ref a := rx
  refine getmeth_ok I1 ea c hm l ?_
  refine PySem.W.callWith_K (first := [.ref a]) (h₀ := X.base) I.ok.mod.kin hm.kp (thn (ha.run pos pins s1 σ H1 _ I1 q) fun us s2 ⟨vs, H2, I2, r, q2⟩ => ⟨I2.kIn, ?_⟩) hst hpl
  exact run_fnS (us := .ref a :: us) (vs := .ref a :: vs) F hr hb (hx σ) I2 (.cons rfl r) q2
/-- isinstance(e, c), e without fields -/
def rIsN (K : PySem.W.Frag) (D a : Addr) (cls : Value) (d : Option Addr) : List V → Hp → VK → Prop := fun xs H Q => ∃ (c : V) (cv : Value) (b : Bool), xs = [.ref a, c] ∧ (∀ u, RelV c u → u = cv) ∧ PySem.W.kitOne K (.ref D) cv = some b ∧ cls = .ref D ∧ d = none ∧ Q (.bl b) H
theorem call_isN {K : PySem.W.Frag} {a D : Addr} {oe : Obj} {cls : Value} {d : Option Addr} {pn : List (Addr × Obj)} (eK : X.K = K) (C : ExcC K D) (hz : Zc cls d oe) (hf : ∃ vs, oe.data = .fields vs) : CallR (X.suite a ((a, oe) :: pn)) (.builtin "isinstance") (rIsN K D a cls d) := by
  subst eK
  intro pins s σ H xs us Q I r h
  obtain ⟨c, cv, b, rfl, hcv, e, rfl, rfl, q⟩ := h
  exact call_isE C hz hf pins s σ H _ us Q I r ⟨c, cv, b, rfl, hcv, e, q⟩
end
/-- an exception class over BookError, without an __init__ of its own -/
structure ClsP (K : PySem.W.Frag) (mg : Str → Option Value) (nm : Str) (D CB : Addr) : Prop where
  gP : mg nm = some (.ref D)
  xP : PySem.W.excIn K D [.type "ValueError", .type "Exception", .type "BaseException", .type "object"] "ValueError.__new__" = true
  kP : PySem.W.keepIn K (.ref D) = true
  bP : PySem.W.subIn K (.ref D) (.type "BaseException") = some true
  tP : PySem.W.typeIn K (.ref D) = some (.type "type")
  hd : PySem.W.hasDictIn K D = true
  sP : PySem.W.subIn K (.ref D) (.ref D) = some true
  ga : PySem.W.findIn K (.ref D) "__getattribute__" = some (some (.builtin "BaseException.__getattribute__"))
  gg : PySem.W.findIn K (.ref D) "__getattr__" = some none
  cl : PySem.W.findIn K (.ref D) "__class__" = some (some (.builtin "object.__class__"))
  sp : PySem.W.specialIn K (.builtin "object.__class__") "__get__" = some (some (.builtin "getset_descriptor.__get__"))
  tk : PySem.W.takesIn K (.builtin "object.__class__") = some true
  ob : PySem.W.mroIn K D (.type "object") = some true
  gB : mg "BookError" = some (.ref CB)
  kit : PySem.W.kitOne K (.ref D) (.ref CB) = some true
section
variable {K : PySem.W.Frag} {mg : Str → Option Value} {nm : Str} {D CB : Addr}
theorem ClsP.exc (P : ClsP K mg nm D CB) : ExcC K D := ⟨P.ga, P.gg, P.bP, P.hd, P.cl, P.sp, P.tk, P.ob⟩
theorem ClsP.hit (P : ClsP K mg nm D CB) : PySem.W.exmOne K (.ref D) (.ref D) = some true := PySem.W.exm_ref P.bP P.hd P.tP P.sP
theorem mkClsP {h : Heap} (X : K.In h) (G : h.Ns mainGlobals mg) (a : PySem.W.nsIn K mainGlobals nm = some (some (.ref D)))
    (a1 : PySem.W.excIn K D [.type "ValueError", .type "Exception", .type "BaseException", .type "object"] "ValueError.__new__" = true) (a2 : PySem.W.keepIn K (.ref D) = true) (a3 : PySem.W.subIn K (.ref D) (.type "BaseException") = some true)
    (a4 : PySem.W.typeIn K (.ref D) = some (.type "type")) (a5 : PySem.W.hasDictIn K D = true) (a6 : PySem.W.subIn K (.ref D) (.ref D) = some true)
    (a7 : PySem.W.findIn K (.ref D) "__getattribute__" = some (some (.builtin "BaseException.__getattribute__"))) (a8 : PySem.W.findIn K (.ref D) "__getattr__" = some none) (a9 : PySem.W.findIn K (.ref D) "__class__" = some (some (.builtin "object.__class__")))
    (b1 : PySem.W.specialIn K (.builtin "object.__class__") "__get__" = some (some (.builtin "getset_descriptor.__get__"))) (b2 : PySem.W.takesIn K (.builtin "object.__class__") = some true) (b3 : PySem.W.mroIn K D (.type "object") = some true)
    (b4 : PySem.W.nsIn K mainGlobals "BookError" = some (some (.ref CB))) (b5 : PySem.W.kitOne K (.ref D) (.ref CB) = some true) : ClsP K mg nm D CB :=
  ⟨PySem.W.mg_of X G a, a1, a2, a3, a4, a5, a6, a7, a8, a9, b1, b2, b3, PySem.W.mg_of X G b4, b5⟩
end
end Rc

namespace Rc
open PySem PySem.Spec PyProof.Rows L2 RZ
/-! ### refusals -/
inductive Rf where
  | step
  | such (v : V)
  | amount
  | ring (z : Str)
  | much (z : Str) (n : Int)
  | full
/-- the classes of what is refused -/
structure Xs where
  S : Addr
  N : Addr
  A : Addr
  R : Addr
  T : Addr
  F : Addr
abbrev XH := Hp → Prop
def Thr (X : Xs) (E : XK) (G : XH) : Rf → Prop
  | .step => ∀ H', G H' → E (.ref X.S) none H'
  | .such v => ∀ H' dd, G H' → H' dd = some (.xd [("who", v)]) → E (.ref X.N) (some dd) H'
  | .amount => ∀ H', G H' → E (.ref X.A) none H'
  | .ring z => ∀ H' dd, G H' → H' dd = some (.xd [("who", .str z)]) → E (.ref X.R) (some dd) H'
  | .much z n => ∀ H' dd, G H' → H' dd = some (.xd [("most", .int n), ("who", .str z)]) → E (.ref X.T) (some dd) H'
  | .full => ∀ H' dd, G H' → H' dd = some (.xd [("many", .int 60)]) → E (.ref X.F) (some dd) H'
theorem Thr.mono {X : Xs} {E : XK} {G G' : XH} (i : ∀ H, G' H → G H) : ∀ {r : Rf}, Thr X E G r → Thr X E G' r
  | .step, h => fun H' g => h H' (i _ g)
  | .such _, h => fun H' dd g => h H' dd (i _ g)
  | .amount, h => fun H' g => h H' (i _ g)
  | .ring _, h => fun H' dd g => h H' dd (i _ g)
  | .much _ _, h => fun H' dd g => h H' dd (i _ g)
  | .full, h => fun H' dd g => h H' dd (i _ g)
theorem Thr.same {X : Xs} {E : XK} {H H1 : Hp} {r : Rf} (h : Thr X E (Same H) r) (s : Same H H1) : Thr X E (Same H1) r := h.mono fun _ s1 => s.trans s1
def tupB : PyData → Bool
  | .tuple _ => true
  | _ => false
theorem kit_tuple {K : PySem.W.Frag} (d : PyData) : PySem.W.kitOne K (.type (tyD d)) (.type "tuple") = some (tupB d) :=
  match d with
  | PyData.none => kit_ty (a := "NoneType") (b := "tuple") (r := false) (by decide +kernel)
  | .bool _ => kit_ty (a := "bool") (b := "tuple") (r := false) (by decide +kernel)
  | .int _ => kit_ty (a := "int") (b := "tuple") (r := false) (by decide +kernel)
  | .str _ => kit_ty (a := "str") (b := "tuple") (r := false) (by decide +kernel)
  | .list _ => kit_ty (a := "list") (b := "tuple") (r := false) (by decide +kernel)
  | .tuple _ => kit_ty (a := "tuple") (b := "tuple") (r := true) (by decide +kernel)
  | .dict _ => kit_ty (a := "dict") (b := "tuple") (r := false) (by decide +kernel)
/-- a written table of two defs, and words that it does not have -/
structure TabN (K : PySem.W.Frag) (w : World) (mg : Str → Option Value) (nm : Str) (fp fc : Addr) (nos : List Str) : Prop where
  ex : ∃ d es n, mg nm = some (.ref d) ∧ KDict K w d es n ∧ PySem.W.nsIn K d "pay" = some (some (.ref fp)) ∧ PySem.W.nsIn K d "clear" = some (some (.ref fc)) ∧ ∀ x ∈ nos, PySem.W.nsIn K d x = some none
theorem TabN.tab {K : PySem.W.Frag} {w : World} {mg : Str → Option Value} {nm : Str} {fp fc : Addr} {nos : List Str} (t : TabN K w mg nm fp fc nos) : TabAt K w mg nm fp fc := by
  obtain ⟨d, es, n, a, b, c, e, _⟩ := t.ex
  exact ⟨d, es, n, a, b, c, e⟩
/-- what is no step -/
inductive NoSt (K : PySem.W.Frag) (nos : List Str) (H : Hp) : V → Prop
  | no {v : V} {d : PyData} : Dt K H v d → tupB d = false → NoSt K nos H v
  | len {t : Addr} {xs : List V} {ds : List PyData} : SqT K H t xs → DtAll K H xs ds → xs.length ≠ 3 → NoSt K nos H (.ref t)
  | kind {t : Addr} {x y z : V} {d : PyData} {ds : List PyData} : SqT K H t [x, y, z] → DtAll K H [x, y, z] ds → Dt K H x d → strD d = false → NoSt K nos H (.ref t)
  | word {t : Addr} {wd : Str} {y z : V} {ds : List PyData} : SqT K H t [.str wd, y, z] → DtAll K H [.str wd, y, z] ds → wd ∈ nos → NoSt K nos H (.ref t)
section
variable {P : Program} {w : World} {K : PySem.W.Frag} {mg : Str → Option Value} {base : Heap}
def spIsN (K : PySem.W.Frag) (nos : List Str) : Sp := fun vs H Q _ => ∃ v, vs = [v] ∧ NoSt K nos H v ∧ ∀ H', Same H H' → Q (.bl false) H'
theorem ok_isN {f fp fc : Addr} {fd : FuncData} {nos : List Str} (F : Fun K "is_step" "is_step" sIsS f fd) (B : Blt mg) (B3 : Blt3 mg) (TB : TabN K w mg "ACTIONS" fp fc nos) : FnOk P w K mg base CX0 1 f fd ["thing"] (spIsN K nos) := by
  obtain ⟨d, es, n, gd, KD, np, nc, nn⟩ := TB.ex
  refine F.ok scIsS (fun vs H Q E h => ?_) (fun cdv A outer s H vs Q E hr h => ?_)
  · obtain ⟨_, rfl, _⟩ := h
    rfl
  · obtain ⟨v, rfl, hn, q⟩ := h
    refine ⟨_, pss_cons (ps_if (PW.pt (pw_or (pt_not (pt_val (pe_callB call_isi (by rfl) B.isi (by decide +kernel) (pa_cons (pv 0) (pa_cons (pe_bltn (v := .ty "tuple") (by rfl) B3.tuple (by decide +kernel) rfl) pa_nil)))))
        (pw_or1 (pt_cmpR op_ne (pe_callB call_len_seq (by rfl) B.len PySem.boot_len (pa_cons (pv 0) pa_nil)) pe_int (nomark _))))) (pss_one (ps_ret pe_bl)) pss_nil)
      (pss_one (ps_ret (pe_and (pe_callB call_isi (by rfl) B.isi (by decide +kernel) (pa_cons (pe_ix ix_tup (pv 0) pe_int (fun _ _ => rfl)) (pa_cons (pe_bltn (v := .ty "str") (by rfl) B.str (by decide +kernel) rfl) pa_nil)))
        (pe_one (pe_cmpR (op_in_kd KD) (pe_ix ix_tup (pv 0) pe_int (fun _ _ => rfl)) (pe_glob (v := .ref d) (by rfl) gd rfl) (by rfl)))))), ?_⟩
    cases hn with
    | @no _ dd hv hb =>
      refine ⟨v, rfl, _, .ty "tuple", _, _, tupB dd, rfl, .ty "tuple", hv.ty, kit_tuple dd, _, rfl, ?_⟩
      rw [hb]
      exact iteT (q H (Same.refl _))
    | @len t xs ds sq da hl =>
      refine ⟨.ref t, rfl, _, .ty "tuple", _, _, true, rfl, .ty "tuple", (Dt.tup sq da).ty, kit_tuple (.tuple ds), _, rfl, iteF ?_⟩
      refine ⟨.ref t, rfl, t, _, rfl, .inr sq, rfl, _, rfl, ?_⟩
      rw [decide_eq_false (show ¬ V.int ((xs.length : Nat) : Int) = V.int 3 from fun e => hl (by have := V.int.inj e; omega))]
      exact iteT (q H (Same.refl _))
    | @kind t x y z dd ds sq da hd hb =>
      refine ⟨.ref t, rfl, _, .ty "tuple", _, _, true, rfl, .ty "tuple", (Dt.tup sq da).ty, kit_tuple (.tuple ds), _, rfl, iteF ?_⟩
      refine ⟨.ref t, rfl, t, _, rfl, .inr sq, rfl, _, rfl, ?_⟩
      rw [decide_eq_true (show V.int (([x, y, z].length : Nat) : Int) = V.int 3 from rfl)]
      refine iteF ⟨.ref t, rfl, t, _, 0, x, rfl, rfl, sq, rfl, x, .ty "str", _, _, strD dd, rfl, .ty "str", hd.ty, kit_str dd, _, rfl, ?_⟩
      rw [hb]
      exact iteF (q H (Same.refl _))
    | @word t wd y z ds sq da hm =>
      refine ⟨.ref t, rfl, _, .ty "tuple", _, _, true, rfl, .ty "tuple", (Dt.tup sq da).ty, kit_tuple (.tuple ds), _, rfl, iteF ?_⟩
      refine ⟨.ref t, rfl, t, _, rfl, .inr sq, rfl, _, rfl, ?_⟩
      rw [decide_eq_true (show V.int (([V.str wd, y, z].length : Nat) : Int) = V.int 3 from rfl)]
      refine iteF ⟨.ref t, rfl, t, _, 0, .str wd, rfl, rfl, sq, rfl, .str wd, .ty "str", _, _, true, rfl, .ty "str", .base (.str wd), kit_ty (by decide +kernel), _, rfl, ?_⟩
      exact iteT ⟨.ref t, rfl, t, _, 0, .str wd, rfl, rfl, sq, rfl, wd, _, rfl, rfl, nn wd hm, q H (Same.refl _)⟩
/-! ### no amount -/
def spCAX (K : PySem.W.Frag) (CA : Addr) : Sp := fun vs H _ E => ∃ v d, vs = [v] ∧ Dt K H v d ∧ ShortD d ∧ amountD d = false ∧ ∀ H', Same H H' → E (.ref CA) none H'
theorem no_checkA {f fN CA CB : Addr} {fd fdN : FuncData} (F : Fun K "check_amount" "check_amount" sCheckA f fd) (PA' : ClsP K mg "NoAmount" CA CB) (N : Has P w K mg base 2 "is_amount" ["thing"] (spBool K amountD) fN fdN) : FnOk P w K mg base (L2.CX P w) 3 f fd ["amount"] (spCAX K CA) := by
  refine F.okX scCheckA (fun vs H Q E h => ?_) (fun cdv A outer s H vs Q E hr h => ?_)
  · obtain ⟨_, _, rfl, _⟩ := h
    rfl
  · obtain ⟨v, d, rfl, hv, hs, hb, q⟩ := h
    refine ⟨_, pss_one (ps_if (pt_not (pt_val (pe_call N.ok hr (by rfl) N.g N.kp N.b .nil pass0 (pa_cons (pv 0) pa_nil)))) (pss_one (ps_raise rfl (takes_of rfl rfl rfl rfl) (pmk_own PySem.F.excBase_ValueError PA'.xP PA'.gP PA'.kP (raises_own PA'.bP PA'.tP) rfl))) pss_nil), ?_⟩
    refine ⟨v, rfl, v, d, rfl, hv, hs, fun H1 s1 => ⟨_, rfl, ?_⟩⟩
    rw [hb]
    exact iteT (q H1 s1)
end
end Rc

namespace Rc
open PySem PySem.Spec PyProof.Rows L2 RZ
/-- refusals of a pay -/
inductive PyR (K : PySem.W.Frag) (H : Hp) (M : Bk) : V → V → Rf → Prop
  | such {v a : V} {d : PyData} : Dt K H v d → ShortD d → hasD M d = false → PyR K H M v a (.such v)
  | amount {z : Str} {j : Nat} {a : V} {d : PyData} : M.names[j]? = some z → Dt K H a d → ShortD d → amountD d = false → PyR K H M (.str z) a .amount
  | much {z : Str} {j : Nat} {m : Int} : M.names[j]? = some z → 1 ≤ m → mostP M j z < m → PyR K H M (.str z) (.int m) (.much z (mostP M j z))
/-- .. of a clear -/
inductive ClR (K : PySem.W.Frag) (H : Hp) (M : Bk) : V → V → Rf → Prop
  | such {v a : V} {d : PyData} : Dt K H v d → ShortD d → hasD M d = false → ClR K H M v a (.such v)
  | amount {z : Str} {a : V} {d : PyData} : z ∈ M.names → Dt K H a d → ShortD d → amountD d = false → ClR K H M (.str z) a .amount
  | ring {z : Str} {m : Int} : z ∈ M.names → 1 ≤ m → ringM M.names (nxM M) z = none → ClR K H M (.str z) (.int m) (.ring z)
  | much {z : Str} {m : Int} {r : List Str} : z ∈ M.names → 1 ≤ m → ringM M.names (nxM M) z = some r → leastI (r.map (amtAt M.names (duesM M))) < m → ClR K H M (.str z) (.int m) (.much z (leastI (r.map (amtAt M.names (duesM M)))))
/-- .. of a step -/
inductive StR (K : PySem.W.Frag) (nos : List Str) (H : Hp) (M : Bk) : V → Rf → Prop
  | no {v : V} : NoSt K nos H v → StR K nos H M v .step
  | pay {t : Addr} {v a : V} {r : Rf} : H t = some (.tup [.str "pay", v, a]) → PyR K H M v a r → StR K nos H M (.ref t) r
  | clear {t : Addr} {v a : V} {r : Rf} : H t = some (.tup [.str "clear", v, a]) → ClR K H M v a r → StR K nos H M (.ref t) r
theorem PyR.same {K : PySem.W.Frag} {H H' : Hp} {M : Bk} {v a : V} {r : Rf} (h : PyR K H M v a r) (s : Same H H') : PyR K H' M v a r := by
  cases h with
  | such a b c => exact .such (Dt.same s _ a) b c
  | amount a b c d => exact .amount a (Dt.same s _ b) c d
  | much a b c => exact .much a b c
theorem ClR.same {K : PySem.W.Frag} {H H' : Hp} {M : Bk} {v a : V} {r : Rf} (h : ClR K H M v a r) (s : Same H H') : ClR K H' M v a r := by
  cases h with
  | such a b c => exact .such (Dt.same s _ a) b c
  | amount a b c d => exact .amount a (Dt.same s _ b) c d
  | ring a b c => exact .ring a b c
  | much a b c d => exact .much a b c d
section
variable {P : Program} {w : World} {K : PySem.W.Frag} {mg : Str → Option Value} {base : Heap}
/-! ### pay_on -/
def spPyR (K : PySem.W.Frag) (C : Addr) (X : Xs) : Sp := fun vs H _ E => ∃ (b : Addr) (M : Bk) (v a : V) (r : Rf), vs = [.ref b, v, a] ∧ BookAt K C H b M ∧ M.Ok ∧ PyR K H M v a r ∧ Thr X E (Same H) r
def spPyS (K : PySem.W.Frag) (C CN : Addr) : Sp := fun vs H Q E => ∃ b v a, vs = [b, v, a] ∧ spNo K C CN [b, v] H Q E
def spPyA (K : PySem.W.Frag) (C CA : Addr) : Sp := fun vs H _ E => ∃ (b : Addr) (M : Bk) (z : Str) (j : Nat) (a : V) (d : PyData), vs = [.ref b, .str z, a] ∧ BookAt K C H b M ∧ M.Ok ∧ M.names[j]? = some z ∧ Dt K H a d ∧ ShortD d ∧ amountD d = false ∧ ∀ H', Same H H' → E (.ref CA) none H'
theorem no_pyS {f f1 C CN : Addr} {fd fd1 : FuncData} (F : Fun K "pay_on" "pay_on" sPayO f fd) (MP : HasX P w K mg base 7 "most_to_pay" ["book", "who"] (spNo K C CN) f1 fd1) : FnOk P w K mg base (L2.CX P w) 8 f fd ["book", "who", "amount"] (spPyS K C CN) := by
  refine F.okX scPayO (fun vs H Q E h => ?_) (fun cdv A outer s H vs Q E hr h => ?_)
  · obtain ⟨_, _, _, rfl, _⟩ := h
    rfl
  obtain ⟨b, v, a, rfl, hx⟩ := h
  exact ⟨_, pss_cons (ps_set (i := 3) scPayO.nd rfl (.inl rfl) (pe_call MP.ok hr (by rfl) MP.g MP.kp MP.b .nil (passes_call (takes_of rfl rfl rfl rfl) fun _ _ _ _ z => z) (pa_cons (pv 0) (pa_cons (pv 1) pa_nil)))) pss_never, b, rfl, v, rfl, hx⟩
theorem no_pyA {f f1 f2 C CA : Addr} {fd fd1 fd2 : FuncData} (F : Fun K "pay_on" "pay_on" sPayO f fd) (MP : Has P w K mg base 7 "most_to_pay" ["book", "who"] (spCalc K C mostP) f1 fd1) (CK : HasX P w K mg base 3 "check_amount" ["amount"] (spCAX K CA) f2 fd2) : FnOk P w K mg base (L2.CX P w) 8 f fd ["book", "who", "amount"] (spPyA K C CA) := by
  refine F.okX scPayO (fun vs H Q E h => ?_) (fun cdv A outer s H vs Q E hr h => ?_)
  · obtain ⟨_, _, _, _, _, _, rfl, _⟩ := h
    rfl
  obtain ⟨b, M, z, j, a, d, rfl, hb, ok, ej, ha, hs, hn, q⟩ := h
  refine ⟨_, pss_cons (ps_set (i := 3) scPayO.nd rfl (.inl rfl) (pe_call MP.ok hr (by rfl) MP.g MP.kp MP.b .nil pass0 (pa_cons (pv 0) (pa_cons (pv 1) pa_nil))))
      (pss_cons (ps_expr (pe_call CK.ok (hr.mono (by decide)) (by rfl) CK.g CK.kp CK.b .nil (passes_call (takes_of rfl rfl rfl rfl) fun _ _ _ _ z => z) (pa_cons (pv 2) pa_nil))) pss_never), ?_⟩
  exact ⟨.ref b, rfl, .str z, rfl, b, M, z, j, rfl, hb, ok, ej, fun H1 s1 => ⟨a, rfl, a, d, rfl, Dt.same s1 _ ha, hs, hn, fun H2 s2 => q H2 (s1.trans s2)⟩⟩
theorem no_pyR {f C : Addr} {fd : FuncData} {X : Xs} (A : FnOk P w K mg base (L2.CX P w) 8 f fd ["book", "who", "amount"] (spPyS K C X.N)) (B : FnOk P w K mg base (L2.CX P w) 8 f fd ["book", "who", "amount"] (spPyA K C X.A)) (D : FnOk P w K mg base (L2.CX P w) 8 f fd ["book", "who", "amount"] (spPyX K C X.T)) : FnOk P w K mg base (L2.CX P w) 8 f fd ["book", "who", "amount"] (spPyR K C X) :=
  FnOk.imp (fnOr A (fnOr B D)) fun vs H Q E h => by
    obtain ⟨b, M, v, a, r, rfl, hb, ok, h, t⟩ := h
    cases h with
    | such hv hs hn => exact .inl ⟨_, _, _, rfl, b, M, v, _, rfl, hb, ok.names, hv, hs, hn, fun H' dd s _ e => t H' dd s e⟩
    | amount ej ha hs hn => exact .inr (.inl ⟨b, M, _, _, a, _, rfl, hb, ok, ej, ha, hs, hn, t⟩)
    | much ej m1 mm => exact .inr (.inr ⟨b, M, _, _, _, rfl, hb, ok, ej, m1, mm, fun H' dd s _ e => t H' dd s e⟩)
/-! ### clear_ring -/
def spClR2 (K : PySem.W.Frag) (C : Addr) (X : Xs) : Sp := fun vs H _ E => ∃ (b : Addr) (M : Bk) (v a : V) (r : Rf), vs = [.ref b, v, a] ∧ BookAt K C H b M ∧ M.Ok ∧ Closed M ∧ ClR K H M v a r ∧ Thr X E (Same H) r
def spClA (K : PySem.W.Frag) (C CA : Addr) : Sp := fun vs H _ E => ∃ (b : Addr) (M : Bk) (z : Str) (a : V) (d : PyData), vs = [.ref b, .str z, a] ∧ BookAt K C H b M ∧ M.Ok ∧ Closed M ∧ z ∈ M.names ∧ Dt K H a d ∧ ShortD d ∧ amountD d = false ∧ ∀ H', Same H H' → E (.ref CA) none H'
theorem no_rgS {f f1 C CN : Addr} {fd fd1 : FuncData} (F : Fun K "ring_of" "ring_of" sRgO f fd) (CP : HasX P w K mg base 3 "check_person" ["book", "who"] (spNo K C CN) f1 fd1) : FnOk P w K mg base (L2.CX P w) 4 f fd ["book", "who"] (spNo K C CN) := by
  refine F.okX scRgO spNo_len (fun cdv A outer s H vs Q E hr h => ?_)
  obtain ⟨b, M, v, d, rfl, hx⟩ := h
  exact ⟨_, pss_cons (ps_expr (pe_call CP.ok hr (by rfl) CP.g CP.kp CP.b .nil (passes_call (takes_of rfl rfl rfl rfl) fun _ _ _ _ z => z) (pa_cons (pv 0) (pa_cons (pv 1) pa_nil)))) pss_never, .ref b, rfl, v, rfl, b, M, v, d, rfl, hx⟩
theorem no_ckS {f f1 C CN : Addr} {fd fd1 : FuncData} (F : Fun K "check_person" "check_person" sCkP f fd) (T : ClsF K C) (N : ClsN P K mg CN) (HS : HasM P w K mg base C 2 "has" ["self", "who"] (spHas K C) f1 fd1) :
    FnOk P w K mg base (L2.CX P w) 3 f fd ["book", "who"] (spNo K C CN) := by
  refine F.okX scCkP spNo_len (fun cdv A outer s H vs Q E hr h => ?_)
  obtain ⟨b, M, v, d, rfl, hb, ok, hv, hs, hn, q⟩ := h
  refine ⟨_, pss_one (ps_if (pt_not (pt_val (pe_meth (pv 0) T.cl HS.m HS.ok hr HS.b .nil pass0 (pa_cons (pv 1) pa_nil))))
      (pss_one (ps_raise rfl (takes_of rfl rfl rfl rfl) (pmk_ex N txNoS EX.base_Lookup hr (pa_cons (pv 1) pa_nil) (by rfl)))) pss_nil), ?_⟩
  obtain ⟨dx, tn, on, wg, ws, wd, e, h1, hn', h2, h3, h4⟩ := hb.ex
  refine ⟨.ref b, rfl, b, dx, _, rfl, e, bf_no (NoF.mk' (by decide +kernel)), v, rfl, b, M, v, d, rfl, hb, ok, hv, hs, fun H1 s1 => ⟨_, rfl, ?_⟩⟩
  rw [hn]
  refine iteT ⟨v, rfl, rfl, fun dd nd => ?_⟩
  exact q _ dd (s1.trans (same_upd nd)) (s1.free nd) upd_same
theorem no_clS {f f1 C CN : Addr} {fd fd1 : FuncData} (F : Fun K "clear_ring" "clear_ring" sClR f fd) (RO : HasX P w K mg base 4 "ring_of" ["book", "who"] (spNo K C CN) f1 fd1) : FnOk P w K mg base (L2.CX P w) 9 f fd ["book", "who", "amount"] (spPyS K C CN) := by
  refine F.okX scClR (fun vs H Q E h => ?_) (fun cdv A outer s H vs Q E hr h => ?_)
  · obtain ⟨_, _, _, rfl, _⟩ := h
    rfl
  obtain ⟨b, v, a, rfl, hx⟩ := h
  exact ⟨_, pss_cons (ps_set (i := 3) scClR.nd rfl (.inl rfl) (pe_call RO.ok (hr.mono (by decide)) (by rfl) RO.g RO.kp RO.b .nil (passes_call (takes_of rfl rfl rfl rfl) fun _ _ _ _ z => z) (pa_cons (pv 0) (pa_cons (pv 1) pa_nil)))) pss_never, b, rfl, v, rfl, hx⟩
theorem no_clA {f f1 f2 C CA : Addr} {fd fd1 fd2 : FuncData} (F : Fun K "clear_ring" "clear_ring" sClR f fd) (RO : Has P w K mg base 8 "ring_of" ["book", "who"] (spRgO K C) f1 fd1) (CK : HasX P w K mg base 3 "check_amount" ["amount"] (spCAX K CA) f2 fd2) : FnOk P w K mg base (L2.CX P w) 9 f fd ["book", "who", "amount"] (spClA K C CA) := by
  refine F.okX scClR (fun vs H Q E h => ?_) (fun cdv A outer s H vs Q E hr h => ?_)
  · obtain ⟨_, _, _, _, _, rfl, _⟩ := h
    rfl
  obtain ⟨b, M, z, a, d, rfl, hb, ok, cl, hz, ha, hs, hn, q⟩ := h
  refine ⟨_, pss_cons (ps_set (i := 3) scClR.nd rfl (.inl rfl) (pe_call RO.ok hr (by rfl) RO.g RO.kp RO.b .nil pass0 (pa_cons (pv 0) (pa_cons (pv 1) pa_nil))))
      (pss_cons (ps_expr (pe_call CK.ok (hr.mono (by decide)) (by rfl) CK.g CK.kp CK.b .nil (passes_call (takes_of rfl rfl rfl rfl) fun _ _ _ _ z => z) (pa_cons (pv 2) pa_nil))) pss_never), ?_⟩
  exact ⟨.ref b, rfl, .str z, rfl, b, M, z, rfl, hb, ok, cl, hz, fun v H1 s1 _ => ⟨a, rfl, a, d, rfl, Dt.same s1 _ ha, hs, hn, fun H2 s2 => q H2 (s1.trans s2)⟩⟩
theorem no_clR2 {f C : Addr} {fd : FuncData} {X : Xs} (A : FnOk P w K mg base (L2.CX P w) 9 f fd ["book", "who", "amount"] (spPyS K C X.N)) (B : FnOk P w K mg base (L2.CX P w) 9 f fd ["book", "who", "amount"] (spClA K C X.A)) (D : FnOk P w K mg base (L2.CX P w) 9 f fd ["book", "who", "amount"] (spClX K C X.T)) (G : FnOk P w K mg base (L2.CX P w) 9 f fd ["book", "who", "amount"] (spClN K C X.R)) : FnOk P w K mg base (L2.CX P w) 9 f fd ["book", "who", "amount"] (spClR2 K C X) :=
  FnOk.imp (fnOr A (fnOr B (fnOr D G))) fun vs H Q E h => by
    obtain ⟨b, M, v, a, r, rfl, hb, ok, cl, h, t⟩ := h
    cases h with
    | such hv hs hn => exact .inl ⟨_, _, _, rfl, b, M, v, _, rfl, hb, ok.names, hv, hs, hn, fun H' dd s _ e => t H' dd s e⟩
    | amount hz ha hs hn => exact .inr (.inl ⟨b, M, _, a, _, rfl, hb, ok, cl, hz, ha, hs, hn, t⟩)
    | ring hz m1 hR => exact .inr (.inr (.inr ⟨b, M, _, _, rfl, hb, ok, cl, hz, hR, m1, fun H' dd s _ e => t H' dd s e⟩))
    | much hz m1 hR mm => exact .inr (.inr (.inl ⟨b, M, _, _, _, rfl, hb, ok, cl, hz, hR, m1, mm, fun H' dd s _ e => t H' dd s e⟩))
/-! ### stepped -/
def spStR (K : PySem.W.Frag) (C : Addr) (X : Xs) (nos : List Str) : Sp := fun vs H _ E => ∃ (b : Addr) (M : Bk) (v : V) (r : Rf), vs = [.ref b, v] ∧ BookAt K C H b M ∧ M.Ok ∧ Closed M ∧ StR K nos H M v r ∧ Thr X E (Same H) r
theorem no_stR {f f1 fp fc C CB : Addr} {fd fd1 fdp fdc : FuncData} {X : Xs} {nos : List Str} (F : Fun K "stepped" "stepped" sStp f fd) (TB : TabN K w mg "ACTIONS" fp fc nos) (PS' : ClsP K mg "NoStep" X.S CB) (IS : Has P w K mg base 1 "is_step" ["thing"] (spIsS K) f1 fd1) (IN' : FnOk P w K mg base CX0 1 f1 fd1 ["thing"] (spIsN K nos))
    (PO : HasX P w K mg base 8 "pay_on" ["book", "who", "amount"] (spPyR K C X) fp fdp) (CR : HasX P w K mg base 9 "clear_ring" ["book", "who", "amount"] (spClR2 K C X) fc fdc) : FnOk P w K mg base (L2.CX P w) 10 f fd ["book", "step"] (spStR K C X nos) := by
  obtain ⟨d, es, n, gd, KD, np, nc, _⟩ := TB.ex
  refine F.okX scStp (fun vs H Q E h => ?_) (fun cdv A outer s H vs Q E hr h => ?_)
  · obtain ⟨_, _, _, _, rfl, _⟩ := h
    rfl
  obtain ⟨b, M, v, r, rfl, hb, ok, cl, h, q⟩ := h
  have hr1 := hr.mono (show 1 ≤ 9 by decide)
  cases h with
  | no hn =>
    refine ⟨_, pss_cons (ps_if (pt_not (pt_val (pe_call IN' hr1 (by rfl) IS.g IS.kp IS.b .nil pass0 (pa_cons (pv 1) pa_nil)))) (pss_one (ps_raise rfl (takes_of rfl rfl rfl rfl) (pmk_own PySem.F.excBase_ValueError PS'.xP PS'.gP PS'.kP (raises_own PS'.bP PS'.tP) rfl))) pss_nil) pss_never, ?_⟩
    exact ⟨v, rfl, v, rfl, hn, fun H1 s1 => ⟨_, rfl, iteT (q H1 s1)⟩⟩
  | @pay t v a _ ht hp =>
    refine ⟨_, pss_cons (ps_if (pt_not (pt_val (pe_call IS.ok hr1 (by rfl) IS.g IS.kp IS.b .nil pass0 (pa_cons (pv 1) pa_nil)))) pss_never pss_nil)
      (pss_cons (ps_asg (pv 1) (pg_tup rfl (pgs_cons (pg_name (i := 2) scStp.nd rfl (.inl rfl)) (pgs_cons (pg_name (i := 3) scStp.nd rfl (.inl rfl)) (pgs_cons (pg_name (i := 4) scStp.nd rfl (.inl rfl)) pgs_nil)))))
      (pss_cons (ps_set (i := 5) scStp.nd rfl (.inl rfl) (pe_ix ix_kdict (pe_glob (v := .ref d) (by rfl) gd rfl) (pv 2) (fun _ _ => rfl)))
      (pss_one (ps_ret (pe_callL (i := 5) (f := fp) PO.ok (hr.mono (by decide)) rfl (.inl rfl) PO.kp PO.b .nil (passes_call (takes_of rfl rfl rfl rfl) fun _ _ _ _ z => z) (pa_cons (pv 0) (pa_cons (pv 3) (pa_cons (pv 4) pa_nil)))))))), ?_⟩
    refine ⟨.ref t, rfl, t, "pay", _, _, rfl, ht, .inl rfl, fun H1 s1 => ⟨_, rfl, iteF ?_⟩⟩
    refine ⟨.ref t, rfl, t, _, rfl, .inl (.inl (s1 _ _ ht)), rfl, _, _, rfl, _, _, rfl, _, _, rfl, rfl, ?_⟩
    exact ⟨.str "pay", rfl, d, _, .ref fp, rfl, rfl, ⟨es, n, _, KD.at_, KD.lit, np, rfl⟩, rfl, .ref b, rfl, v, rfl, a, rfl, b, M, v, a, r, rfl, book_same hb s1, ok, hp.same s1, q.same s1⟩
  | @clear t v a _ ht hp =>
    refine ⟨_, pss_cons (ps_if (pt_not (pt_val (pe_call IS.ok hr1 (by rfl) IS.g IS.kp IS.b .nil pass0 (pa_cons (pv 1) pa_nil)))) pss_never pss_nil)
      (pss_cons (ps_asg (pv 1) (pg_tup rfl (pgs_cons (pg_name (i := 2) scStp.nd rfl (.inl rfl)) (pgs_cons (pg_name (i := 3) scStp.nd rfl (.inl rfl)) (pgs_cons (pg_name (i := 4) scStp.nd rfl (.inl rfl)) pgs_nil)))))
      (pss_cons (ps_set (i := 5) scStp.nd rfl (.inl rfl) (pe_ix ix_kdict (pe_glob (v := .ref d) (by rfl) gd rfl) (pv 2) (fun _ _ => rfl)))
      (pss_one (ps_ret (pe_callL (i := 5) (f := fc) CR.ok hr rfl (.inl rfl) CR.kp CR.b .nil (passes_call (takes_of rfl rfl rfl rfl) fun _ _ _ _ z => z) (pa_cons (pv 0) (pa_cons (pv 3) (pa_cons (pv 4) pa_nil)))))))), ?_⟩
    refine ⟨.ref t, rfl, t, "clear", _, _, rfl, ht, .inr rfl, fun H1 s1 => ⟨_, rfl, iteF ?_⟩⟩
    refine ⟨.ref t, rfl, t, _, rfl, .inl (.inl (s1 _ _ ht)), rfl, _, _, rfl, _, _, rfl, _, _, rfl, rfl, ?_⟩
    exact ⟨.str "clear", rfl, d, _, .ref fc, rfl, rfl, ⟨es, n, _, KD.at_, KD.lit, nc, rfl⟩, rfl, .ref b, rfl, v, rfl, a, rfl, b, M, v, a, r, rfl, book_same hb s1, ok, cl, hp.same s1, q.same s1⟩
end
end Rc

namespace Rc
open PySem PySem.Spec PyProof.Rows L2 RZ PySem.Builtin.Str
/-! ### texts of plain signs -/
def Asc (x : Str) : Prop := ∀ c ∈ x.cps.toList, c < 128
instance (x : Str) : Decidable (Asc x) := inferInstanceAs (Decidable (∀ c ∈ x.cps.toList, c < 128))
theorem Asc.app {x y : Str} (a : Asc x) (b : Asc y) : Asc (x ++ y) := fun c hc => by
  have e : (x ++ y).cps.toList = x.cps.toList ++ y.cps.toList := by
    show (x.cps ++ y.cps).toList = _
    rw [Array.toList_append]
  rw [e] at hc
  rcases List.mem_append.mp hc with h | h
  · exact a c h
  · exact b c h
theorem asc2 {a b : Str} (ha : Asc a) (hb : Asc b) : ∀ t ∈ [a, b], Asc t := fun t h => by
  rcases List.mem_cons.mp h with rfl | h
  · exact ha
  · rw [List.mem_singleton.mp h]
    exact hb
theorem asc_ok {x : Str} (h : Asc x) : PyData.strOk x = true := by
  show x.cps.all (· < 0x110000) = true
  rw [← Array.all_toList, List.all_eq_true]
  exact fun c hc => decide_eq_true (Nat.lt_trans (h c hc) (by decide))
theorem quote_two (x : Str) : reprQuote x = 34 ∨ reprQuote x = 39 := by
  unfold reprQuote
  split <;> simp
theorem char_asc : ∀ q ∈ [34, 39], ∀ c < 128, ∀ d ∈ Builtin.Str.reprChar q c, d < 128 := by decide +kernel
theorem repr_asc {x : Str} (h : Asc x) : Asc (reprText x) := by
  have q2 : reprQuote x ∈ [34, 39] := by
    rcases quote_two x with e | e <;> rw [e] <;> decide
  have q3 : reprQuote x < 128 := by
    rcases quote_two x with e | e <;> rw [e] <;> decide
  unfold reprText
  generalize reprQuote x = q at q2 q3
  have go : ∀ (l : List Nat) (acc : Array Nat), (∀ c ∈ l, c < 128) → (∀ c ∈ acc.toList, c < 128) → ∀ c ∈ (l.foldl (fun out c => out ++ (Builtin.Str.reprChar q c).toArray) acc).toList, c < 128 := fun l => by
    induction l with
    | nil => exact fun _ _ ha => ha
    | cons a r ih =>
      intro acc hl ha
      refine ih _ (fun c hc => hl c (List.mem_cons_of_mem _ hc)) fun c hc => ?_
      rw [Array.toList_append] at hc
      rcases List.mem_append.mp hc with h | h
      · exact ha c h
      · exact char_asc q q2 a (hl a List.mem_cons_self) c (by simpa using h)
  intro c hc
  have hc : c ∈ ((x.cps.foldl (fun out c => out ++ (Builtin.Str.reprChar q c).toArray) #[q]).push q).toList := hc
  rw [Array.toList_push] at hc
  rcases List.mem_append.mp hc with hc | hc
  · rw [← Array.foldl_toList] at hc
    exact go _ _ h (fun c hc => by rw [List.mem_singleton.mp hc]; exact q3) c hc
  · rw [List.mem_singleton.mp hc]
    exact q3
theorem text_asc : ∀ (ts : List Str) (k : Nat) (acc : Str), Asc acc → (∀ t ∈ ts, Asc t) → Asc (textFrom k acc ts)
  | [], _, _, ha, _ => ha
  | t :: r, k, acc, ha, h => by
    refine text_asc r (k + 1) _ ((ha.app ?_).app (h t List.mem_cons_self)) fun u hu => h u (List.mem_cons_of_mem _ hu)
    split
    · exact (by decide +kernel : Asc (", " : Str))
    · exact (by decide +kernel : Asc ("" : Str))
theorem list_asc {ts : List Str} (h : ∀ t ∈ ts, Asc t) : Asc (listText ts) := (text_asc ts 0 _ (by decide +kernel : Asc ("[" : Str)) h).app (by decide +kernel : Asc ("]" : Str))
theorem shownAll_strs : ∀ zs : List Str, PyData.shownAll (zs.map .str) = zs.map reprText
  | [] => by simp [PyData.shownAll]
  | z :: r => by
    rw [List.map_cons, List.map_cons, PyData.shownAll, shownAll_strs r, PyData.shown]
theorem name_asc {z : Str} (h : nameT z = true) : Asc z := fun c hc => abc_lt c (name_signs h c hc)
theorem str_asc {z : Str} (h : Asc z) : Asc (PyData.shown (.str z)) := by
  rw [PyData.shown]
  exact repr_asc h
theorem names_asc {zs : List Str} (h : ∀ z ∈ zs, nameT z = true) : Asc (PyData.shown (.list (zs.map .str))) := by
  rw [PyData.shown, shownAll_strs]
  refine list_asc fun t ht => ?_
  obtain ⟨z, hz, rfl⟩ := List.mem_map.mp ht
  exact repr_asc (name_asc (h z hz))
theorem one_asc {z : Str} (h : nameT z = true) : Asc (PyData.shown (.tuple [.str z])) := by
  have e : PyData.shown (.tuple [.str z]) = ("(" : Str) ++ reprText z ++ (",)" : Str) := by
    simp only [PyData.shown, PyData.shownAll]
    rfl
  rw [e]
  exact ((by decide +kernel : Asc ("(" : Str)).app (repr_asc (name_asc h))).app (by decide +kernel)
/-! ### lists of plain texts -/
theorem strs_self12 : ∀ l : List Str, PyData.eqvAll (l.map PyData.str) (l.map PyData.str) = true
  | [] => by simp [PyData.eqvAll]
  | x :: r => by
    rw [List.map_cons, PyData.eqvAll, strs_self12 r]
    have : PyData.eqv (.str x) (.str x) = true := by simp [PyData.eqv]
    rw [this]
    rfl
theorem list_self12 (l : List Str) : PyData.eqv (.list (l.map PyData.str)) (.list (l.map PyData.str)) = true := by
  have := strs_self12 l
  simp only [PyData.eqv]
  exact this
theorem shaped12 {l : List Str} (h : ∀ t ∈ l, Asc t) : SeqAt.shaped (.list (l.map PyData.str)) = true := by
  have c : PyData.canLayAll0 (l.map PyData.str) = true := by
    induction l with
    | nil => rfl
    | cons a r ih =>
      rw [List.map_cons, PyData.canLayAll0, ih fun t ht => h t (List.mem_cons_of_mem _ ht), PyData.canLay0, asc_ok (h a List.mem_cons_self)]
      rfl
  have d : PyData.depthAll (l.map PyData.str) ≤ 1 := by
    induction l with
    | nil => exact Nat.zero_le _
    | cons a r ih =>
      rw [List.map_cons]
      simp only [PyData.depthAll]
      have h1 : (PyData.str a).depth ≤ 0 := by simp only [PyData.depth]; omega
      have h2 := ih (fun t ht => h t (List.mem_cons_of_mem _ ht)) (by
        rw [List.map_cons, PyData.canLayAll0, Bool.and_eq_true] at c
        exact c.2)
      omega
  unfold SeqAt.shaped
  have ec : (PyData.list (l.map PyData.str)).canLay0 = true := by rw [PyData.canLay0]; exact c
  rw [ec, decide_eq_true (show (PyData.list (l.map PyData.str)).depth ≤ 64 by simp only [PyData.depth]; omega)]
  rfl
theorem strs_dp12 {K : PySem.W.Frag} {H : Hp} {x : Addr} {l : List Str} (h : H x = some (.lst (l.map V.str))) : Dp K H (.ref x) (.list (l.map PyData.str)) := .lst (.inl (.inl h)) (DpAll.strs l)
end Rc

namespace Rc
open PySem PySem.Spec PyProof.Rows L2
/-! ### the classes of what steps refuse: what is asked of them, as one Bool -/
def cls43 (X : Xs) (B : Addr) : List Addr := [X.S, X.N, X.A, X.R, X.T, B]
/-- NoStep, NoSuch, NoAmount, NoRing, TooMuch: each is of itself alone; NoStep and NoAmount are BookErrors -/
def is43 (i j : Nat) : Bool := i == j || (j == 5 && (i == 0 || i == 2))
structure Ex43 (K : PySem.W.Frag) (D : Addr) : Prop where
  exc : ExcC K D
  xf : XfC K D
  who : PySem.W.findIn K (.ref D) "who" = some none
  most : PySem.W.findIn K (.ref D) "most" = some none
def at43 (X : Xs) (B : Addr) (i : Nat) : Addr := (cls43 X B).getD i 0
structure X43 (K : PySem.W.Frag) (mg : Str → Option Value) (X : Xs) (B : Addr) : Prop where
  gS : mg "NoStep" = some (.ref X.S)
  gN : mg "NoSuch" = some (.ref X.N)
  gA : mg "NoAmount" = some (.ref X.A)
  gR : mg "NoRing" = some (.ref X.R)
  gT : mg "TooMuch" = some (.ref X.T)
  gB : mg "BookError" = some (.ref B)
  ex : ∀ i, i < 5 → Ex43 K (at43 X B i)
  kit : ∀ i j, i < 5 → j < 6 → PySem.W.kitOne K (.ref (at43 X B i)) (.ref (at43 X B j)) = some (is43 i j)
  exm : ∀ i j, i < 5 → j < 5 → PySem.W.exmOne K (.ref (at43 X B i)) (.ref (at43 X B j)) = some (is43 i j)
section
variable {K : PySem.W.Frag} {mg : Str → Option Value} {X : Xs} {B : Addr}
/-- any of the five is caught by a tuple of all five -/
theorem X43.five (h : X43 K mg X B) {i : Nat} (hi : i < 5) : PySem.W.exmAny K (.ref (at43 X B i)) [.ref X.S, .ref X.N, .ref X.A, .ref X.R, .ref X.T] = some true := by
  have f : ∀ j, j < 5 → PySem.W.exmOne K (.ref (at43 X B i)) (.ref (at43 X B j)) = some (is43 i j) := fun j hj => h.exm i j hi hj
  have e0 := f 0 (by omega)
  have e1 := f 1 (by omega)
  have e2 := f 2 (by omega)
  have e3 := f 3 (by omega)
  have e4 := f 4 (by omega)
  show (match PySem.W.exmOne K (.ref (at43 X B i)) (.ref (at43 X B 0)), (match PySem.W.exmOne K (.ref (at43 X B i)) (.ref (at43 X B 1)), (match PySem.W.exmOne K (.ref (at43 X B i)) (.ref (at43 X B 2)), (match PySem.W.exmOne K (.ref (at43 X B i)) (.ref (at43 X B 3)), (match PySem.W.exmOne K (.ref (at43 X B i)) (.ref (at43 X B 4)), some false with
    | some b, some d => some (b || d)
    | _, _ => none) with
    | some b, some d => some (b || d)
    | _, _ => none) with
    | some b, some d => some (b || d)
    | _, _ => none) with
    | some b, some d => some (b || d)
    | _, _ => none) with
    | some b, some d => some (b || d)
    | _, _ => none) = some true
  rw [e0, e1, e2, e3, e4]
  match i, hi with
  | 0, _ => rfl
  | 1, _ => rfl
  | 2, _ => rfl
  | 3, _ => rfl
  | 4, _ => rfl
end
/-- the place of a refusal's class -/
def Rf.ix : Rf → Nat
  | .step => 0
  | .such _ => 1
  | .amount => 2
  | .ring _ => 3
  | .much _ _ => 4
  | .full => 5
end Rc

namespace Rc
open PySem PySem.Spec PyProof.Rows L2
/-! ### a def that is called from a suite, whatever is handled -/
structure RoomU (k : Nat) (A : Around) : Prop where
  dp : A.depth + 3 * k + 5 < recursionLimit
  un : A.units + 16 * k + 200 < cLine
  gd : A.guards = some []
theorem RoomU.units {k : Nat} {A : Around} (r : RoomU k A) : A.units + 64 < cLine := by have := r.un; omega
theorem roomU {X : Cx} {k : Nat} {a : Addr} {pn : List (Addr × Obj)} (r : Room k X.A) (g : X.A.guards = some []) : RoomU k (X.suite a pn).A := ⟨r.dp, r.un, g⟩
structure FnU (P : Program) (w : World) (K : PySem.W.Frag) (mg : Str → Option Value) (base : Heap) (k : Nat) (f : Addr) (fd : FuncData) (ps : List Str) (sp : Sp) : Prop where
  len : ∀ vs H Q E, sp vs H Q E → vs.length = ps.length
  run : ∀ (A : Around) (outer : List Env) (s : Shared) (H : Hp) (args : Args) (us : List Value) (vs : List V) (Q : VK) (E : XK), RoomU k A → Env0 P w K mg base A outer s H → BindsTo s fd args (ps.zip us) → Vals vs us → sp vs H Q E →
    codeAny (model P w) A (.call (.ref f) args) (CR CX0 outer P w H s Q E) s
structure HasU (P : Program) (w : World) (K : PySem.W.Frag) (mg : Str → Option Value) (base : Heap) (k : Nat) (x : Str) (ps : List Str) (sp : Sp) (f : Addr) (fd : FuncData) : Prop where
  ok : FnU P w K mg base k f fd ps sp
  g : mg x = some (.ref f)
  kp : PySem.W.keepIn K (.ref f) = true
  b : Binds K fd ps []
/-- the context of such a def's body -/
abbrev cxU (P : Program) (w : World) (K : PySem.W.Frag) (mg : Str → Option Value) (base : Heap) (N : List Str) (qual : Str) (scope : Scope) (f : Addr) (cd : Value) (A : Around) (outer : List Env) (s : Shared) (H : Hp) (E : XK) : Cx :=
  { cxOf CX0 P w K mg base N qual scope f cd A outer s H E with calm := false }
section
variable {P : Program} {w : World} {K : PySem.W.Frag} {mg : Str → Option Value} {base : Heap}
theorem inv_startU {N ps : List Str} {qual : Str} {scope : Scope} {f : Addr} {cd : Value} {A : Around} {outer : List Env} {s s1 : Shared} {H : Hp} {E : XK} {us : List Value} {vs : List V}
    (S : FnScope N ps scope) (e0 : Env0 P w K mg base A outer s H) (hl : vs.length = ps.length) (r : Vals vs us)
    (x : InCallC s s.heap.objs.size (bindL (envOfC qual scope s.heap.objs.size f cd).kindOf (ps.zip us) fun _ => none) (cellsFrom (s.heap.objs.size + 1) scope.names []) (bindC (envOfC qual scope s.heap.objs.size f cd).kindOf (ps.zip us) fun _ => none) s1) :
    Inv (cxU P w K mg base N qual scope f cd A outer s H E) [] (L2.start N vs) H s1 := by
  have hpl : ps.length ≤ N.length := by have := congrArg List.length S.pre; rw [List.length_take] at this; omega
  obtain ⟨h1, tk, rfl, hk⟩ := x.done
  have noA : ∀ b : Addr, b ∉ (cxU P w K mg base N qual scope f cd A outer s H E).ex := fun b z => absurd (show b ∈ ([] : List Addr) from z) (by simp)
  refine ⟨⟨e0.mod, S.kind, rfl, rfl, Nat.le_refl _, fun y z c h1 h2 => ?_, fun y hy => ?_, fun y c _ h => ?_, (fun z => Bool.noConfusion (show false = true from z)), Around.frames_deeper e0.frames, .inr ⟨rfl, rfl⟩, fun b z => absurd z (noA b), e0.bs, e0.bsz, fun b _ _ => noA b, fun b z => absurd z (noA b), e0.funs, e0.frf⟩,
    rfl, e0.bare, Un.kept hk, ⟨_, x.toInCall.ns, fun i y v h1 h2 h3 => ?_⟩, fun y c h => ⟨_, x.cell y c h⟩, e0.hok.fresh (Nat.le_refl _), fun y c h => ?_, fun p hp => absurd (show p ∈ ([] : List (Addr × Obj)) from hp) (by simp), e0.hok.kept hk, ?_⟩
  · exact name_of_addr x.apart (PySem.mem_of_lookup h1) (PySem.mem_of_lookup h2)
  · have hy : scope.names.lookup y = some .cell ∨ scope.names.lookup y = some .free := hy
    rcases hy with hy | hy
    · exact cell_has hy
    · exact absurd rfl (S.nofree _ (PySem.mem_of_lookup hy))
  · exact Nat.le_of_lt (x.above y c (PySem.mem_of_lookup h))
  · have hi : i < vs.length := by
      unfold L2.start at h2
      by_cases hi : i < vs.length
      · exact hi
      · rw [List.getElem?_append_right (by simpa using hi)] at h2
        rw [List.getElem?_replicate] at h2
        split at h2 <;> cases h2
    have ha : vs[i]? = some v := by
      unfold L2.start at h2
      rw [List.getElem?_append_left (by simpa using hi), List.getElem?_map] at h2
      cases e : vs[i]? with
      | none => rw [e] at h2; cases h2
      | some a => rw [e] at h2; cases h2; rfl
    obtain ⟨u, hu, rv⟩ := r.get ha
    have hp : ps[i]? = some y := by
      rw [← S.pre, List.getElem?_take_of_lt (by omega)]; exact h1
    have ndP : ps.Nodup := by rw [← S.pre]; exact S.nd.sublist (List.take_sublist _ _)
    refine ⟨u, rv, ?_⟩
    rcases S.par y (List.mem_of_getElem? hp) with k | k
    · exact .inl ⟨k, bindL_get ndP hp hu k⟩
    · obtain ⟨c, e⟩ := cell_has (n := s.heap.objs.size + 1) k
      refine .inr ⟨.inl k, c, e, ?_⟩
      have q := x.cell y c e
      rw [bindC_get ndP hp hu (by show scope.names.lookup y ≠ _; rw [k]; decide)] at q
      exact q
  · exact e0.hok.fresh (Nat.le_of_lt (x.above y c (PySem.mem_of_lookup h)))
  · unfold L2.start
    show _ = N.length
    rw [List.length_append, List.length_map, List.length_replicate]
    omega
/-- such a def, by its body -/
theorem okU {x qual : Str} {st : Stmt} {f : Addr} {fd : FuncData} {N ps : List Str} {k : Nat} {sp : Sp}
    (F : Fun K x qual st f fd) (S : FnScope N ps (defScope st))
    (len : ∀ vs H Q E, sp vs H Q E → vs.length = ps.length)
    (body : ∀ (cdv : Value) (A : Around) (outer : List Env) (s : Shared) (H : Hp) (vs : List V) (Q : VK) (E : XK),
      RoomU k (A.deeper (envOfC qual (defScope st) s.heap.objs.size f cdv)) → sp vs H Q E →
      ∃ t, PSs (cxU P w K mg base N qual (defScope st) f cdv A outer s H E).nox (defBody st) t ∧
        t { nx := fun _ H' => Q .non H', rt := Q } (L2.start N vs) H) :
    FnU P w K mg base (k + 1) f fd ps sp := by
  obtain ⟨oc, od, kV, doc, pm, an, cdv, ct, osl, rfl, lk, hcd⟩ := F.ex
  refine ⟨len, fun A outer s H args us vs Q E hr e0 hb r hsp => ?_⟩
  have hl := len vs H Q E hsp
  have keep : ∀ b o, base.get? b = some o → s.heap.get? b = some o := fun b o e => (e0.bs b o e).1
  have KX : K.In s.heap := e0.mod.kin.keeps keep
  have dp : A.depth < recursionLimit := by have := hr.dp; omega
  refine codeAny_call_function dp (KX _ _ lk) rfl S.co S.gen rfl
    (PySem.W.codeRec_of KX hcd) (hb _ _ _ _ ?_)
  refine wpAny_newFunctionEnv_cells S.kind (fun y hy => ?_) fun env he s1 x => ?_
  · obtain ⟨n, v⟩ := y
    exact (S.par n (List.of_mem_zip hy).1).elim .inl fun q => .inr ⟨q, PySem.W.cellsFrom_some _ _ _ (.inl q)⟩
  · subst he
    refine ⟨(e0.mod.nolimit.keeps keep).keeps x.toInCall.keep, codeAny_func ?_⟩
    have deep : RoomU k (A.deeper (envOfC qual (defScope st) s.heap.objs.size f cdv)) := ⟨by have := hr.dp; show A.depth + 1 + 3 * k + 5 < _; omega, by have := hr.un; show A.units + 3 + 16 * k + 200 < _; omega, hr.gd⟩
    obtain ⟨t, ht, hq⟩ := body cdv A outer s H vs Q E deep hsp
    have I := inv_startU (E := E) S e0 hl r x
    refine wpAny_mono (ht.nox.run [] s1 (L2.start N vs) H _ I hq) (fun fl s' hs => ?_) fun _ _ z => z
    cases fl with
    | ret u =>
      obtain ⟨v, σ', H', J, rv, q⟩ := hs
      exact ⟨v, H', J.os, J.bare, J.base, J.hok, rv, q⟩
    | next =>
      obtain ⟨σ', H', J, q⟩ := hs
      exact ⟨.non, H', J.os, J.bare, J.base, J.hok, rfl, q⟩
    | brk =>
      obtain ⟨_, _, _, q⟩ := hs
      exact q.elim
    | cont =>
      obtain ⟨_, _, _, q⟩ := hs
      exact q.elim
end
section
variable {X : Cx} {pins pn : List (Addr × Obj)} {σ : L2.St} {H : Hp} {s s' : Shared} {a : Addr} {oe : Obj}
def tCallU (sp : Sp) (a : Addr) (cls : Value) (dx : Option Addr) (E : XK) (t : TA) : TE := fun σ H Q => t σ H fun vs H1 => ∀ oe, Zc cls dx oe → (∃ us, oe.data = .fields us) → sp vs (upd H1 a (TX oe a)) (fun v H2 => Q v (delH H2 a)) E
theorem pe_callU {cls : Value} {dx : Option Addr} {k : Nat} {f : Addr} {fd : FuncData} {ps : List Str} {sp : Sp} {E : XK} {x : Str} {p pos : Pos} {e : Expr} {es : List Expr} {t : TA} (hB : X.base.get? a = none) (hz : Zc cls dx oe) (hf : ∃ us, oe.data = .fields us) (F : FnU X.prog X.w X.K X.mg X.base k f fd ps sp) (hr : RoomU k (X.suite a ((a, oe) :: pn)).A) (hg : Gl X x) (hm : X.mg x = some (.ref f)) (hk : PySem.W.keepIn X.K (.ref f) = true) (hb : Binds X.K fd ps [])
    (ha : PA (X.suite a ((a, oe) :: pn)) (e :: es) t) (hdb : (x == ("__debug__" : Str)) = false := by decide) (he : starEach (e :: es) X.env = (false, eval e X.env) :: starEach es X.env := by rfl) (hpl : (backTo pos (starEach es X.env)).any (·.1) = false := by rfl) :
    PE (X.suite a ((a, oe) :: pn)) (.Call (.Name x p) (e :: es) [] pos) (tCallU sp a cls dx E t) := by
  refine ⟨fun pins s σ H Q I h => ?_⟩
  refine wpAny_Call_Name_kw (ld_glob I hg hm ?_ hdb)
  refine PySem.W.callWith_K (h₀ := X.base) I.ok.mod.kin hk (thn (ha.run pos pins s σ H _ I h) fun us s1 ⟨vs, H1, I1, r, q⟩ => ⟨I1.kIn, ?_⟩) he hpl
  have q := q oe hz hf
  have hl : us.length = ps.length := by rw [← r.length]; exact F.len _ _ _ _ q
  have b := hb s1 us I1.kIn (by rw [List.append_nil]; exact hl)
  rw [List.append_nil] at b
  refine wpAny_call (codeAny_mono (F.run (X.suite a ((a, oe) :: pn)).A X.stack s1 _ ⟨us, []⟩ us vs _ E hr (tx_env hB I1) b r q) fun r s' hq => ?_)
  cases r with
  | error e => exact False.elim hq
  | ok fl =>
    cases fl with
    | ret u => exact tx_after I1 hq
    | next => exact False.elim hq
    | brk => exact False.elim hq
    | cont => exact False.elim hq
end
end Rc

namespace Rc
open PySem PySem.Spec PyProof.Rows L2 RZ
/-- a caught one with fields -/
def IsF (H : Hp) (a D : Addr) (fs : List (Str × V)) : Prop := ∃ (oe : Obj) (dd : Addr), H a = some (TX oe a) ∧ Zc (.ref D) (some dd) oe ∧ (∃ vs, oe.data = .fields vs) ∧ H dd = some (.xd fs)
theorem IsF.is {H : Hp} {a D : Addr} {fs : List (Str × V)} (h : IsF H a D fs) : IsX H a D := by
  obtain ⟨oe, dd, e1, e2, e3, e4⟩ := h
  exact ⟨oe, some dd, e1, e2, e3, fun d' e => by cases e; exact ⟨fs, e4⟩⟩
theorem IsX.same {H H' : Hp} {a D : Addr} (h : IsX H a D) (s : Same H H') : IsX H' a D := by
  obtain ⟨oe, d, e1, e2, e3, e4⟩ := h
  exact ⟨oe, d, s _ _ e1, e2, e3, fun dd e => let ⟨fs, z⟩ := e4 dd e; ⟨fs, s _ _ z⟩⟩
theorem IsF.same {H H' : Hp} {a D : Addr} {fs : List (Str × V)} (h : IsF H a D fs) (s : Same H H') : IsF H' a D fs := by
  obtain ⟨oe, dd, e1, e2, e3, e4⟩ := h
  exact ⟨oe, dd, s _ _ e1, e2, e3, s _ _ e4⟩
/-- what is caught -/
def Caught (X : Xs) (H : Hp) (a : Addr) : Rf → Prop
  | .step => IsX H a X.S
  | .such v => IsF H a X.N [("who", v)]
  | .amount => IsX H a X.A
  | .ring z => IsF H a X.R [("who", .str z)]
  | .much z n => IsF H a X.T [("most", .int n), ("who", .str z)]
  | .full => False
theorem Caught.is {X : Xs} {BE : Addr} {H : Hp} {a : Addr} : ∀ {r : Rf}, Caught X H a r → r.ix < 5 ∧ IsX H a (at43 X BE r.ix)
  | .step, h => ⟨by decide, h⟩
  | .such _, h => ⟨by show 1 < 5; decide, IsF.is h⟩
  | .amount, h => ⟨by decide, h⟩
  | .ring _, h => ⟨by show 3 < 5; decide, IsF.is h⟩
  | .much _ _, h => ⟨by show 4 < 5; decide, IsF.is h⟩
  | .full, h => h.elim
theorem Caught.same {X : Xs} {H H' : Hp} {a : Addr} (s : Same H H') : ∀ {r : Rf}, Caught X H a r → Caught X H' a r
  | .step, h => IsX.same h s
  | .such _, h => IsF.same h s
  | .amount, h => IsX.same h s
  | .ring _, h => IsF.same h s
  | .much _ _, h => IsF.same h s
  | .full, h => h.elim
/-- the words that tell it -/
inductive Wd43 (K : PySem.W.Frag) (H : Hp) : Rf → List Str → Prop
  | step : Wd43 K H .step ["step"]
  | such {v : V} {d : PyData} : Dt K H v d → ShowOk d → Wd43 K H (.such v) ["such", d.shown]
  | amount : Wd43 K H .amount ["amount"]
  | ring {z : Str} : ShowOk (.str z) → Wd43 K H (.ring z) ["ring", PyData.shown (.str z)]
  | much {z : Str} {n : Int} : ShowOk (.str z) → ShowOk (.int n) → Wd43 K H (.much z n) ["much", PyData.shown (.str z), PyData.shown (.int n)]
theorem Wd43.same {K : PySem.W.Frag} {H H' : Hp} {r : Rf} {ws : List Str} (h : Wd43 K H r ws) (s : Same H H') : Wd43 K H' r ws := by
  cases h with
  | step => exact .step
  | such a b => exact .such (Dt.same s _ a) b
  | amount => exact .amount
  | ring a => exact .ring a
  | much a b => exact .much a b
def w43 (i : Nat) : Str := (["step", "such", "amount", "ring", "much"] : List Str).getD i ""
section
variable {P : Program} {w : World} {K : PySem.W.Frag} {mg : Str → Option Value} {base : Heap}
/-! ### _law_word -/
abbrev sLWd : Stmt := topS 66
abbrev nLWd : List Str := ["_law_e", "_law_some", "_law_kind"]
theorem scLWd : FnScope nLWd ["_law_e"] (defScope sLWd) := ⟨rfl, rfl, rfl, by decide +kernel, rfl, by decide +kernel, by decide +kernel⟩
def spLWd (K : PySem.W.Frag) (X : Xs) : Sp := fun vs H Q _ => ∃ (a : Addr) (r : Rf) (ws : List Str), vs = [.ref a] ∧ Caught X H a r ∧ Wd43 K H r ws ∧ ∀ t H', Same H H' → H' t = some (.tup (ws.map V.str)) → Q (.ref t) H'
set_option maxHeartbeats 4000000 in
theorem ok_lwd {f : Addr} {fd : FuncData} {X : Xs} {BE : Addr} (F : Fun K "_law_word" "_law_word" sLWd f fd) (B : Blt mg) (B2 : Blt2 mg) (X4 : X43 K mg X BE) : FnU P w K mg base 2 f fd ["_law_e"] (spLWd K X) := by
  refine okU F scLWd (fun vs H Q E h => ?_) (fun cdv Ar outer s H vs Q E hr h => ?_)
  · obtain ⟨_, _, _, rfl, _⟩ := h
    rfl
  · obtain ⟨a, r, ws, rfl, hc, hw, q⟩ := h
    have hu := hr.units
    have i5 : r.ix < 5 := (hc.is (BE := BE)).1
    have hex := X4.ex _ i5
    refine ⟨_, (pss_cons (ps_set (i := 1) scLWd.nd rfl (.inl rfl) (pe_lst (pa_cons (pe_callB (call_isT (a := a) (D := at43 X BE r.ix) rfl hex.exc) (by rfl) B.isi (by decide +kernel) (pa_cons (pv 0) (pa_cons (pe_glob (v := .ref X.S) (by rfl) X4.gS rfl) pa_nil))) (pa_cons (pe_callB (call_isT (a := a) (D := at43 X BE r.ix) rfl hex.exc) (by rfl) B.isi (by decide +kernel) (pa_cons (pv 0) (pa_cons (pe_glob (v := .ref X.N) (by rfl) X4.gN rfl) pa_nil))) (pa_cons (pe_callB (call_isT (a := a) (D := at43 X BE r.ix) rfl hex.exc) (by rfl) B.isi (by decide +kernel) (pa_cons (pv 0) (pa_cons (pe_glob (v := .ref X.A) (by rfl) X4.gA rfl) pa_nil))) (pa_cons (pe_callB (call_isT (a := a) (D := at43 X BE r.ix) rfl hex.exc) (by rfl) B.isi (by decide +kernel) (pa_cons (pv 0) (pa_cons (pe_glob (v := .ref X.R) (by rfl) X4.gR rfl) pa_nil))) pa_nil)))))) (pss_cons (ps_expr (pe_bm PySem.F.plainAttrs_list PySem.F.slot_list_append PySem.F.type_list_append mt_append (pv 1) (pa_cons (pe_callB (call_isT (a := a) (D := at43 X BE r.ix) rfl hex.exc) (by rfl) B.isi (by decide +kernel) (pa_cons (pv 0) (pa_cons (pe_glob (v := .ref X.T) (by rfl) X4.gT rfl) pa_nil))) pa_nil))) (pss_cons (ps_if (PW.pt (pw_or (pt_cmpR op_ne (pe_bm PySem.F.plainAttrs_list PySem.F.slot_list_count PySem.F.type_list_count (mt_countF (K := K) rfl) (pv 1) (pa_cons pe_bl pa_nil)) pe_int (nomark _)) (pw_or1 (pt_cmpR op_ne (pe_callB (call_isT (a := a) (D := at43 X BE r.ix) rfl hex.exc) (by rfl) B.isi (by decide +kernel) (pa_cons (pv 0) (pa_cons (pe_glob (v := .ref BE) (by rfl) X4.gB rfl) pa_nil))) (pe_or (pe_ix ix_list (pv 1) pe_int (fun _ _ => rfl)) (pe_one (pe_ix ix_list (pv 1) pe_int (fun _ _ => rfl)))) (nomark _))))) (pss_one (ps_ret (pe_tup (pa_cons pe_str pa_nil)))) pss_nil) (pss_cons (ps_set (i := 2) scLWd.nd rfl (.inl rfl) (pe_ix ix_list (pe_lst (pa_cons pe_str (pa_cons pe_str (pa_cons pe_str (pa_cons pe_str (pa_cons pe_str pa_nil)))))) (pe_bm PySem.F.plainAttrs_list PySem.F.slot_list_index PySem.F.type_list_index mt_index (pv 1) (pa_cons pe_bl pa_nil)) (fun _ _ => rfl))) (pss_cons (ps_if (pt_cmpR op_in_seq (pv 2) (pe_tup (pa_cons pe_str (pa_cons pe_str pa_nil))) (by rfl)) (pss_one (ps_ret (pe_tup (pa_cons (pv 2) (pa_cons (pe_callB (call_reprU rfl hu hr.gd) (by rfl) B2.repr (by decide +kernel) (pa_cons (pe_xt (a := a) (C := at43 X BE r.ix) hex.xf hex.who (pv 0)) pa_nil)) pa_nil))))) pss_nil) (pss_one (ps_ret (pe_ifExp (pt_cmpR op_eq (pv 2) pe_str (nomark _)) (pe_tup (pa_cons (pv 2) (pa_cons (pe_callB (call_reprU rfl hu hr.gd) (by rfl) B2.repr (by decide +kernel) (pa_cons (pe_xt (a := a) (C := at43 X BE r.ix) hex.xf hex.who (pv 0)) pa_nil)) (pa_cons (pe_callB (call_reprU rfl hu hr.gd) (by rfl) B2.repr (by decide +kernel) (pa_cons (pe_xt (a := a) (C := at43 X BE r.ix) hex.xf hex.most (pv 0)) pa_nil)) pa_nil)))) (pe_tup (pa_cons (pv 2) pa_nil)))))))))), ?_⟩
    have ki : ∀ j, j < 6 → PySem.W.kitOne K (.ref (at43 X BE r.ix)) (.ref (at43 X BE j)) = some (is43 r.ix j) := fun j hj => X4.kit _ j i5 hj
    have k0 := ki 0 (by decide)
    have k1 := ki 1 (by decide)
    have k2 := ki 2 (by decide)
    have k3 := ki 3 (by decide)
    have k4 := ki 4 (by decide)
    have k5 := ki 5 (by decide)
    have hx := (hc.is (BE := BE)).2
    refine ⟨.ref a, rfl, .ref X.S, .ref X.S, is43 r.ix 0, rfl, (fun u h => h), k0, hx, .ref a, rfl, .ref X.N, .ref X.N, is43 r.ix 1, rfl, (fun u h => h), k1, hx, .ref a, rfl, .ref X.A, .ref X.A, is43 r.ix 2, rfl, (fun u h => h), k2, hx, .ref a, rfl, .ref X.R, .ref X.R, is43 r.ix 3, rfl, (fun u h => h), k3, hx, by show 4 ≤ sizeLine; decide, fun L nL => ?_⟩
    have hL1 : upd H L (.lst [.bl (is43 r.ix 0), .bl (is43 r.ix 1), .bl (is43 r.ix 2), .bl (is43 r.ix 3)]) L = some (.lst [.bl (is43 r.ix 0), .bl (is43 r.ix 1), .bl (is43 r.ix 2), .bl (is43 r.ix 3)]) := upd_same
    have s1 := same_upd (o := .lst [V.bl (is43 r.ix 0), .bl (is43 r.ix 1), .bl (is43 r.ix 2), .bl (is43 r.ix 3)]) nL
    generalize upd H L (.lst [V.bl (is43 r.ix 0), .bl (is43 r.ix 1), .bl (is43 r.ix 2), .bl (is43 r.ix 3)]) = H1 at s1 hL1
    refine ⟨.ref L, rfl, .inl ⟨rfl, _, .inl (.inl hL1)⟩, .ref a, rfl, .ref X.T, .ref X.T, is43 r.ix 4, rfl, (fun u h => h), k4, hx.same s1, L, _, _, rfl, rfl, hL1, by show 4 < sizeLine; decide, ?_⟩
    have s2 : Same H (upd H1 L (.lst ([.bl (is43 r.ix 0), .bl (is43 r.ix 1), .bl (is43 r.ix 2), .bl (is43 r.ix 3)] ++ [.bl (is43 r.ix 4)]))) := fun c o e => (upd_ne (ne_of_none e nL)).trans (s1 _ _ e)
    have hL2 : upd H1 L (.lst ([.bl (is43 r.ix 0), .bl (is43 r.ix 1), .bl (is43 r.ix 2), .bl (is43 r.ix 3)] ++ [.bl (is43 r.ix 4)])) L = some (.lst [.bl (is43 r.ix 0), .bl (is43 r.ix 1), .bl (is43 r.ix 2), .bl (is43 r.ix 3), .bl (is43 r.ix 4)]) := upd_same
    generalize upd H1 L (.lst ([.bl (is43 r.ix 0), .bl (is43 r.ix 1), .bl (is43 r.ix 2), .bl (is43 r.ix 3)] ++ [.bl (is43 r.ix 4)])) = H2 at s2 hL2
    generalize eY : ([V.bl (is43 r.ix 0), .bl (is43 r.ix 1), .bl (is43 r.ix 2), .bl (is43 r.ix 3), .bl (is43 r.ix 4)] : List V) = ys at hL2
    have cnt : (ys.countP fun z => eqV z (.bl true)) = 1 := by
      rw [← eY]
      generalize r.ix = i at i5
      match i, i5 with
      | 0, _ => rfl
      | 1, _ => rfl
      | 2, _ => rfl
      | 3, _ => rfl
      | 4, _ => rfl
    have fly : ys.all flatV = true := by rw [← eY]; rfl
    have y0 : ys[0]? = some (.bl (is43 r.ix 0)) := by rw [← eY]; rfl
    have y2 : ys[2]? = some (.bl (is43 r.ix 2)) := by rw [← eY]; rfl
    have yi : ys[r.ix]? = some (.bl true) ∧ ∀ (m : Nat) (z' : V), m < r.ix → ys[m]? = some z' → eqV z' (.bl true) = false := by
      rw [← eY]
      generalize r.ix = i at i5
      refine ⟨?_, fun m z' hm e => ?_⟩
      · match i, i5 with
        | 0, _ => rfl
        | 1, _ => rfl
        | 2, _ => rfl
        | 3, _ => rfl
        | 4, _ => rfl
      · match i, i5, m, hm, e with
        | 1, _, 0, _, e => cases e; rfl
        | 2, _, 0, _, e => cases e; rfl
        | 2, _, 1, _, e => cases e; rfl
        | 3, _, 0, _, e => cases e; rfl
        | 3, _, 1, _, e => cases e; rfl
        | 3, _, 2, _, e => cases e; rfl
        | 4, _, 0, _, e => cases e; rfl
        | 4, _, 1, _, e => cases e; rfl
        | 4, _, 2, _, e => cases e; rfl
        | 4, _, 3, _, e => cases e; rfl
    refine ⟨.ref L, rfl, .inl ⟨rfl, _, .inl (.inl hL2)⟩, L, ys, .bl true, rfl, rfl, .inl (.inl hL2), rfl, fly, rfl, _, rfl, ?_⟩
    rw [cnt, decide_eq_true (show V.int ((1 : Nat) : Int) = V.int 1 from rfl)]
    refine iteF ⟨.ref a, rfl, .ref BE, .ref BE, is43 r.ix 5, rfl, (fun u h => h), k5, hx.same s2, .ref L, rfl, L, _, 0, .bl (is43 r.ix 0), rfl, rfl, .inl (.inl hL2), atI_nat (j := 0) y0, _, rfl, ?_⟩
    have ey : ys = [V.bl (is43 r.ix 0), .bl (is43 r.ix 1), .bl (is43 r.ix 2), .bl (is43 r.ix 3), .bl (is43 r.ix 4)] := eY.symm
    clear eY
    cases hw with
    | @step =>
      refine iteT ⟨rfl, _, rfl, ?_⟩
      refine iteF ⟨by show 5 ≤ sizeLine; decide, fun M nM => ?_⟩
      have s3 := s2.trans (same_upd (o := .lst [V.str "step", .str "such", .str "amount", .str "ring", .str "much"]) nM)
      have hL3 := (same_upd (o := .lst [V.str "step", .str "such", .str "amount", .str "ring", .str "much"]) nM) _ _ hL2
      have hM3 : upd H2 M (.lst [V.str "step", .str "such", .str "amount", .str "ring", .str "much"]) M = some (.lst [V.str "step", .str "such", .str "amount", .str "ring", .str "much"]) := upd_same
      generalize upd H2 M (.lst [V.str "step", .str "such", .str "amount", .str "ring", .str "much"]) = H3 at s3 hL3 hM3
      refine ⟨.ref L, rfl, .inl ⟨rfl, _, .inl (.inl hL3)⟩, L, ys, .bl true, 0, .bl true, rfl, rfl, .inl (.inl hL3), rfl, fly, yi.1, rfl, yi.2, M, _, 0, .str "step", rfl, rfl, .inl (.inl hM3), atI_nat (j := 0) rfl, ?_⟩
      refine ⟨.str "step", rfl, by show 2 ≤ sizeLine; decide, fun T nT => ?_⟩
      have s4 := s3.trans (same_upd (o := .tup [V.str "such", .str "ring"]) nT)
      have hT4 : upd H3 T (.tup [V.str "such", .str "ring"]) T = some (.tup [V.str "such", .str "ring"]) := upd_same
      generalize upd H3 T (.tup [V.str "such", .str "ring"]) = H4 at s4 hT4
      refine ⟨T, _, rfl, .inr (.inl (.inl hT4)), rfl, rfl, _, rfl, ?_⟩
      refine iteF ⟨.str "step", rfl, rfl, _, rfl, ?_⟩
      rw [decide_eq_false (fun e => absurd (V.str.inj e) (by decide))]
      refine iteF ⟨.str "step", rfl, by show 1 ≤ sizeLine; decide, fun T2 nT2 => ?_⟩
      exact q T2 _ (s4.trans (same_upd nT2)) upd_same
    | @such v d hv so =>
      refine iteF ⟨.ref L, rfl, L, _, 2, .bl false, rfl, rfl, .inl (.inl hL2), atI_nat (j := 2) y2, rfl, _, rfl, ?_⟩
      refine iteF ⟨by show 5 ≤ sizeLine; decide, fun M nM => ?_⟩
      have s3 := s2.trans (same_upd (o := .lst [V.str "step", .str "such", .str "amount", .str "ring", .str "much"]) nM)
      have hL3 := (same_upd (o := .lst [V.str "step", .str "such", .str "amount", .str "ring", .str "much"]) nM) _ _ hL2
      have hM3 : upd H2 M (.lst [V.str "step", .str "such", .str "amount", .str "ring", .str "much"]) M = some (.lst [V.str "step", .str "such", .str "amount", .str "ring", .str "much"]) := upd_same
      generalize upd H2 M (.lst [V.str "step", .str "such", .str "amount", .str "ring", .str "much"]) = H3 at s3 hL3 hM3
      refine ⟨.ref L, rfl, .inl ⟨rfl, _, .inl (.inl hL3)⟩, L, ys, .bl true, 1, .bl true, rfl, rfl, .inl (.inl hL3), rfl, fly, yi.1, rfl, yi.2, M, _, 1, .str "such", rfl, rfl, .inl (.inl hM3), atI_nat (j := 1) rfl, ?_⟩
      refine ⟨.str "such", rfl, by show 2 ≤ sizeLine; decide, fun T nT => ?_⟩
      have s4 := s3.trans (same_upd (o := .tup [V.str "such", .str "ring"]) nT)
      have hT4 : upd H3 T (.tup [V.str "such", .str "ring"]) T = some (.tup [V.str "such", .str "ring"]) := upd_same
      generalize upd H3 T (.tup [V.str "such", .str "ring"]) = H4 at s4 hT4
      refine ⟨T, _, rfl, .inr (.inl (.inl hT4)), rfl, rfl, _, rfl, ?_⟩
      obtain ⟨oe, dd, c1, c2, c3, c4⟩ := IsF.same hc s4
      refine iteT ⟨.str "such", rfl, .ref a, rfl, rfl, oe, dd, _, v, c1, c2, c3, c4, rfl, v, d, rfl, Dt.same s4 _ hv, so.sh, so.tp, so.dp, so.ft, by show 2 ≤ sizeLine; decide, fun T2 nT2 => ?_⟩
      exact q T2 _ (s4.trans (same_upd nT2)) upd_same
    | @amount =>
      refine iteF ⟨.ref L, rfl, L, _, 2, .bl true, rfl, rfl, .inl (.inl hL2), atI_nat (j := 2) y2, rfl, _, rfl, ?_⟩
      refine iteF ⟨by show 5 ≤ sizeLine; decide, fun M nM => ?_⟩
      have s3 := s2.trans (same_upd (o := .lst [V.str "step", .str "such", .str "amount", .str "ring", .str "much"]) nM)
      have hL3 := (same_upd (o := .lst [V.str "step", .str "such", .str "amount", .str "ring", .str "much"]) nM) _ _ hL2
      have hM3 : upd H2 M (.lst [V.str "step", .str "such", .str "amount", .str "ring", .str "much"]) M = some (.lst [V.str "step", .str "such", .str "amount", .str "ring", .str "much"]) := upd_same
      generalize upd H2 M (.lst [V.str "step", .str "such", .str "amount", .str "ring", .str "much"]) = H3 at s3 hL3 hM3
      refine ⟨.ref L, rfl, .inl ⟨rfl, _, .inl (.inl hL3)⟩, L, ys, .bl true, 2, .bl true, rfl, rfl, .inl (.inl hL3), rfl, fly, yi.1, rfl, yi.2, M, _, 2, .str "amount", rfl, rfl, .inl (.inl hM3), atI_nat (j := 2) rfl, ?_⟩
      refine ⟨.str "amount", rfl, by show 2 ≤ sizeLine; decide, fun T nT => ?_⟩
      have s4 := s3.trans (same_upd (o := .tup [V.str "such", .str "ring"]) nT)
      have hT4 : upd H3 T (.tup [V.str "such", .str "ring"]) T = some (.tup [V.str "such", .str "ring"]) := upd_same
      generalize upd H3 T (.tup [V.str "such", .str "ring"]) = H4 at s4 hT4
      refine ⟨T, _, rfl, .inr (.inl (.inl hT4)), rfl, rfl, _, rfl, ?_⟩
      refine iteF ⟨.str "amount", rfl, rfl, _, rfl, ?_⟩
      rw [decide_eq_false (fun e => absurd (V.str.inj e) (by decide))]
      refine iteF ⟨.str "amount", rfl, by show 1 ≤ sizeLine; decide, fun T2 nT2 => ?_⟩
      exact q T2 _ (s4.trans (same_upd nT2)) upd_same
    | @ring z so =>
      refine iteF ⟨.ref L, rfl, L, _, 2, .bl false, rfl, rfl, .inl (.inl hL2), atI_nat (j := 2) y2, rfl, _, rfl, ?_⟩
      refine iteF ⟨by show 5 ≤ sizeLine; decide, fun M nM => ?_⟩
      have s3 := s2.trans (same_upd (o := .lst [V.str "step", .str "such", .str "amount", .str "ring", .str "much"]) nM)
      have hL3 := (same_upd (o := .lst [V.str "step", .str "such", .str "amount", .str "ring", .str "much"]) nM) _ _ hL2
      have hM3 : upd H2 M (.lst [V.str "step", .str "such", .str "amount", .str "ring", .str "much"]) M = some (.lst [V.str "step", .str "such", .str "amount", .str "ring", .str "much"]) := upd_same
      generalize upd H2 M (.lst [V.str "step", .str "such", .str "amount", .str "ring", .str "much"]) = H3 at s3 hL3 hM3
      refine ⟨.ref L, rfl, .inl ⟨rfl, _, .inl (.inl hL3)⟩, L, ys, .bl true, 3, .bl true, rfl, rfl, .inl (.inl hL3), rfl, fly, yi.1, rfl, yi.2, M, _, 3, .str "ring", rfl, rfl, .inl (.inl hM3), atI_nat (j := 3) rfl, ?_⟩
      refine ⟨.str "ring", rfl, by show 2 ≤ sizeLine; decide, fun T nT => ?_⟩
      have s4 := s3.trans (same_upd (o := .tup [V.str "such", .str "ring"]) nT)
      have hT4 : upd H3 T (.tup [V.str "such", .str "ring"]) T = some (.tup [V.str "such", .str "ring"]) := upd_same
      generalize upd H3 T (.tup [V.str "such", .str "ring"]) = H4 at s4 hT4
      refine ⟨T, _, rfl, .inr (.inl (.inl hT4)), rfl, rfl, _, rfl, ?_⟩
      obtain ⟨oe, dd, c1, c2, c3, c4⟩ := IsF.same hc s4
      refine iteT ⟨.str "ring", rfl, .ref a, rfl, rfl, oe, dd, _, .str z, c1, c2, c3, c4, rfl, .str z, .str z, rfl, .str z, so.sh, so.tp, so.dp, so.ft, by show 2 ≤ sizeLine; decide, fun T2 nT2 => ?_⟩
      exact q T2 _ (s4.trans (same_upd nT2)) upd_same
    | @much z n so sn =>
      refine iteF ⟨.ref L, rfl, L, _, 2, .bl false, rfl, rfl, .inl (.inl hL2), atI_nat (j := 2) y2, rfl, _, rfl, ?_⟩
      refine iteF ⟨by show 5 ≤ sizeLine; decide, fun M nM => ?_⟩
      have s3 := s2.trans (same_upd (o := .lst [V.str "step", .str "such", .str "amount", .str "ring", .str "much"]) nM)
      have hL3 := (same_upd (o := .lst [V.str "step", .str "such", .str "amount", .str "ring", .str "much"]) nM) _ _ hL2
      have hM3 : upd H2 M (.lst [V.str "step", .str "such", .str "amount", .str "ring", .str "much"]) M = some (.lst [V.str "step", .str "such", .str "amount", .str "ring", .str "much"]) := upd_same
      generalize upd H2 M (.lst [V.str "step", .str "such", .str "amount", .str "ring", .str "much"]) = H3 at s3 hL3 hM3
      refine ⟨.ref L, rfl, .inl ⟨rfl, _, .inl (.inl hL3)⟩, L, ys, .bl true, 4, .bl true, rfl, rfl, .inl (.inl hL3), rfl, fly, yi.1, rfl, yi.2, M, _, 4, .str "much", rfl, rfl, .inl (.inl hM3), atI_nat (j := 4) rfl, ?_⟩
      refine ⟨.str "much", rfl, by show 2 ≤ sizeLine; decide, fun T nT => ?_⟩
      have s4 := s3.trans (same_upd (o := .tup [V.str "such", .str "ring"]) nT)
      have hT4 : upd H3 T (.tup [V.str "such", .str "ring"]) T = some (.tup [V.str "such", .str "ring"]) := upd_same
      generalize upd H3 T (.tup [V.str "such", .str "ring"]) = H4 at s4 hT4
      refine ⟨T, _, rfl, .inr (.inl (.inl hT4)), rfl, rfl, _, rfl, ?_⟩
      refine iteF ⟨.str "much", rfl, rfl, _, rfl, ?_⟩
      obtain ⟨oe, dd, c1, c2, c3, c4⟩ := IsF.same hc s4
      rw [decide_eq_true (show V.str _ = V.str _ from rfl)]
      refine iteT ⟨.str "much", rfl, .ref a, rfl, rfl, oe, dd, _, .str z, c1, c2, c3, c4, rfl, .str z, .str z, rfl, .str z, so.sh, so.tp, so.dp, so.ft, .ref a, rfl, rfl, oe, dd, _, .int n, c1, c2, c3, c4, rfl, .int n, .int n, rfl, .int n, sn.sh, sn.tp, sn.dp, sn.ft, by show 3 ≤ sizeLine; decide, fun T2 nT2 => ?_⟩
      exact q T2 _ (s4.trans (same_upd nT2)) upd_same
end
end Rc

namespace Rc
open PySem PySem.Spec PyProof.Rows L2 RZ
theorem NoSt.same {K : PySem.W.Frag} {nos : List Str} {H H' : Hp} {v : V} (h : NoSt K nos H v) (s : Same H H') : NoSt K nos H' v := by
  cases h with
  | no a b => exact .no (Dt.same s _ a) b
  | len a b c => exact .len (same_seqT s a) (DtAll.same s _ b) c
  | kind a b c d => exact .kind (same_seqT s a) (DtAll.same s _ b) (Dt.same s _ c) d
  | word a b c => exact .word (same_seqT s a) (DtAll.same s _ b) c
theorem StR.same {K : PySem.W.Frag} {nos : List Str} {H H' : Hp} {M : Bk} {v : V} {r : Rf} (h : StR K nos H M v r) (s : Same H H') : StR K nos H' M v r := by
  cases h with
  | no a => exact .no (a.same s)
  | pay a b => exact .pay (s _ _ a) (b.same s)
  | clear a b => exact .clear (s _ _ a) (b.same s)
section
variable {X : Cx} {CX : CXT} {k n : Nat} {f : Addr} {fd : FuncData} {ps ks : List Str} {sp : Sp} {E : L2.St → XK} {x : Str} {p pos : Pos} {e : Expr} {es : List Expr} {kws : List Keyword} {t tk : TA} {g : List Value → List Value → List Value} {gV : List V → List V → List V}
def tCallNS (n m : Nat) (sp : Sp) (gV : List V → List V → List V) (E : L2.St → XK) (t tk : TA) : TE := fun σ H Q => t σ H fun vs H1 => tk σ H1 fun zs H2 => vs.length = n ∧ zs.length = m ∧ sp (gV vs zs) H2 Q (E σ)
/-- f(e, .., k = v, ..) within a try -/
theorem pe_callNS (F : FnOk X.prog X.w X.K X.mg X.base CX k f fd ps sp) (hr : Room k X.A) (hg : Gl X x) (hm : X.mg x = some (.ref f)) (hk : PySem.W.keepIn X.K (.ref f) = true) (hb : KBn X.K fd ps n ks g gV) (hx : ∀ σ, PassesAt CX X σ (E σ))
    (ha : PA X (e :: es) t) (hkw : PK X kws tk) (hall : (backToKw pos (keywordEach kws X.env)).all (·.1.isSome) = true := by rfl) (hks : (backToKw pos (keywordEach kws X.env)).filterMap (·.1) = ks := by rfl)
    (hdb : (x == ("__debug__" : Str)) = false := by decide) (he : starEach (e :: es) X.env = (false, eval e X.env) :: starEach es X.env := by rfl)
    (hpl : ((backTo pos (starEach (e :: es) X.env)).any (·.1) || (backToKw pos (keywordEach kws X.env)).any (·.1.isNone)) = false := by rfl) :
    PE X (.Call (.Name x p) (e :: es) kws pos) (tCallNS n ks.length sp gV E t tk) := by
  refine ⟨fun pins s σ H Q I h => ?_⟩
  refine wpAny_Call_Name_kw (ld_glob I hg hm ?_ hdb)
  refine PySem.W.callWith_KW (h₀ := X.base) I.ok.mod.kin hk hall (thn (ha.run pos pins s σ H _ I h) fun us s1 ⟨vs, H1, I1, r, q⟩ => ?_) hpl he
  refine thn (hkw.run pos pins s1 σ H1 _ I1 q) fun ws s2 ⟨zs, H2, I2, rz, l1, l2, q2⟩ => ⟨I2.kIn, ?_⟩
  rw [hks]
  have r2 := hb.rel r rz
  refine wpAny_call (codeAny_mono (F.run X.A X.stack s2 H2 ⟨us, ks.zip ws⟩ (g us ws) (gV vs zs) Q (E σ) hr I2.env0 (hb.to s2 us ws I2.kIn (r.length.symm.trans l1) (rz.length.symm.trans l2)) r2 q2) fun r s' hq => ?_)
  cases r with
  | error e => exact hx σ pins H2 s2 e s' I2 hq
  | ok fl =>
    cases fl with
    | ret u => exact I2.after hq
    | next => exact False.elim hq
    | brk => exact False.elim hq
    | cont => exact False.elim hq
end
section
variable {P : Program} {w : World} {K : PySem.W.Frag} {mg : Str → Option Value} {base : Heap}
/-! ### by_weaving, refused -/
def spStO (K : PySem.W.Frag) (C : Addr) (X : Xs) (nos : List Str) : Sp := fun vs H Q E => spSt K C vs H Q E ∨ spStR K C X nos vs H Q E
def spWvR (K : PySem.W.Frag) (C : Addr) (X : Xs) (nos : List Str) : Sp := fun vs H _ E => ∃ (b l : Addr) (M N : Bk) (xs : List V) (W : List (Str × Str × Int)) (v : V) (r : Rf), vs = [.ref b, .ref l] ∧ BookAt K C H b M ∧ H l = some (.lst xs) ∧ (∀ (i : Nat) (x : V) (p : Str × Str × Int), xs[i]? = some x → W[i]? = some p → StAt H x p) ∧ Wv M W N ∧
  xs[W.length]? = some v ∧ StR K nos H N v r ∧ N.Ok ∧ Closed N ∧ Thr X E (Same H) r
theorem no_bwR {f f1 C : Addr} {fd fd1 : FuncData} {X : Xs} {nos : List Str} (F : Fun K "by_weaving" "by_weaving" sBWv f fd) (ST : HasX P w K mg base 10 "stepped" ["book", "step"] (spStO K C X nos) f1 fd1) : FnOk P w K mg base (L2.CX P w) 11 f fd ["book", "weaving"] (spWvR K C X nos) := by
  refine F.okX scBWv (fun vs H Q E h => ?_) (fun cdv A outer s H vs Q E hr h => ?_)
  · obtain ⟨_, _, _, _, _, _, _, _, rfl, _⟩ := h
    rfl
  obtain ⟨b, l, M, N, xs, W, v, r, rfl, hb, hl, st, wv, ev, hs, oN, cN, q⟩ := h
  refine ⟨_, pss_cons (ps_for (passes_of rfl) rfl (pi_list (pv 1)) (pg_name (i := 2) scBWv.nd rfl (.inl rfl))
        (pss_one (ps_set (i := 0) scBWv.nd rfl (.inl rfl) (pe_call ST.ok hr (by rfl) ST.g ST.kp ST.b .nil (passes_call (takes_of rfl rfl rfl rfl) fun _ _ _ _ z => z) (pa_cons (pv 0) (pa_cons (pv 2) pa_nil))))))
      (pss_one (ps_ret (pv 0))), ?_⟩
  have lW := (List.getElem?_eq_some_iff.mp ev).1
  refine ⟨.ref l, rfl, l, rfl, ⟨_, .inl (.inl hl)⟩, ?_⟩
  refine for_it (walk_list (K := K) (a := l) (xs := xs)) (fun i σ H' => i ≤ W.length ∧ ∃ b' M' y2, σ = [some (.ref b'), some (.ref l), y2] ∧ Same H H' ∧ BookAt K C H' b' M' ∧ Wv M' (W.drop i) N) ⟨Nat.zero_le _, b, M, _, rfl, Same.refl _, hb, wv⟩ (fun i σ H' _ hP => ?_) (fun i x σ H1' H1 hi hP hY => ?_) (fun σ H1 hP => ?_)
  · obtain ⟨_, _, _, _, _, s1, _⟩ := hP
    exact .inl (.inl (s1 _ _ hl))
  · obtain ⟨rfl, hx⟩ := hY
    obtain ⟨hiW, b1, M1, y2, rfl, s1, hb1, w1⟩ := hP
    by_cases hlast : i = W.length
    · subst hlast
      rw [List.drop_length] at w1
      cases w1
      rw [ev] at hx
      cases hx
      exact ⟨.ref b1, rfl, v, rfl, .inr ⟨b1, _, v, r, rfl, hb1, oN, cN, hs.same s1, q.same s1⟩⟩
    · have hiW' : i < W.length := by omega
      obtain ⟨t, rfl, ht⟩ := st i x _ hx (List.getElem?_eq_getElem hiW')
      have ed : W.drop i = W[i] :: W.drop (i + 1) := List.drop_eq_getElem_cons hiW'
      rw [ed] at w1
      have ht1 := s1 _ _ ht
      generalize W[i] = pp at w1 ht1
      generalize W.drop (i + 1) = WR at w1
      cases w1 with
      | pay ok ej m1 mm fo h' =>
        refine ⟨.ref b1, rfl, .ref t, rfl, .inl (.inl ⟨b1, t, M1, _, _, _, rfl, ht1, hb1, ok, ej, m1, mm, fo, fun b' H2 s2 nb hb2 => ?_⟩)⟩
        exact ⟨by omega, b', _, _, rfl, s1.trans s2, hb2, h'⟩
      | clear co h' =>
        refine ⟨.ref b1, rfl, .ref t, rfl, .inl (.inr ⟨b1, t, M1, _, _, _, rfl, ht1, hb1, co, fun b' H2 s2 nb hb2 => ?_⟩)⟩
        exact ⟨by omega, b', _, _, rfl, s1.trans s2, hb2, h'⟩
  · obtain ⟨hle, _⟩ := hP
    omega
/-! ### most_of, refused -/
theorem no_mtc {f f1 C CN : Addr} {fd fd1 : FuncData} (F : Fun K "most_to_clear" "most_to_clear" sMtC f fd) (RO : HasX P w K mg base 4 "ring_of" ["book", "who"] (spNo K C CN) f1 fd1) : FnOk P w K mg base (L2.CX P w) 5 f fd ["book", "who"] (spNo K C CN) := by
  refine F.okX scMtC spNo_len (fun cdv A outer s H vs Q E hr h => ?_)
  obtain ⟨b, M, v, d, rfl, hx⟩ := h
  exact ⟨_, pss_cons (ps_set (i := 2) scMtC.nd rfl (.inl rfl) (pe_call RO.ok hr (by rfl) RO.g RO.kp RO.b .nil (passes_call (takes_of rfl rfl rfl rfl) fun _ _ _ _ z => z) (pa_cons (pv 0) (pa_cons (pv 1) pa_nil)))) pss_never, .ref b, rfl, v, rfl, b, M, v, d, rfl, hx⟩
def spMoN2 (K : PySem.W.Frag) (C CN : Addr) : Sp := fun vs H Q E => ∃ b v wd, vs = [b, v, .str wd] ∧ (wd = "pay" ∨ wd = "clear") ∧ spNo K C CN [b, v] H Q E
theorem no_moN {f fp fc C CN : Addr} {fd fdp fdc : FuncData} (F : Fun K "most_of" "most_of" sMoO f fd) (TB : TabAt K w mg "MOSTS" fp fc) (MP : HasX P w K mg base 7 "most_to_pay" ["book", "who"] (spNo K C CN) fp fdp) (MC : HasX P w K mg base 5 "most_to_clear" ["book", "who"] (spNo K C CN) fc fdc) :
    FnOk P w K mg base (L2.CX P w) 8 f fd ["book", "who", "word"] (spMoN2 K C CN) := by
  obtain ⟨d, es, n, gd, KD, np, nc⟩ := TB.ex
  refine F.okX scMoO (fun vs H Q E h => ?_) (fun cdv A outer s H vs Q E hr h => ?_)
  · obtain ⟨_, _, _, rfl, _⟩ := h
    rfl
  obtain ⟨b, v, wd, rfl, hw, hx⟩ := h
  rcases hw with rfl | rfl
  · refine ⟨_, pss_cons (ps_set (i := 3) scMoO.nd rfl (.inl rfl) (pe_ix ix_kdict (pe_glob (v := .ref d) (by rfl) gd rfl) (pv 2) (fun _ _ => rfl)))
      (pss_one (ps_ret (pe_callL (i := 3) (f := fp) MP.ok hr rfl (.inl rfl) MP.kp MP.b .nil (passes_call (takes_of rfl rfl rfl rfl) fun _ _ _ _ z => z) (pa_cons (pv 0) (pa_cons (pv 1) pa_nil))))), ?_⟩
    exact ⟨.str "pay", rfl, d, _, .ref fp, rfl, rfl, ⟨es, n, _, KD.at_, KD.lit, np, rfl⟩, rfl, b, rfl, v, rfl, hx⟩
  · refine ⟨_, pss_cons (ps_set (i := 3) scMoO.nd rfl (.inl rfl) (pe_ix ix_kdict (pe_glob (v := .ref d) (by rfl) gd rfl) (pv 2) (fun _ _ => rfl)))
      (pss_one (ps_ret (pe_callL (i := 3) (f := fc) MC.ok (hr.mono (by decide)) rfl (.inl rfl) MC.kp MC.b .nil (passes_call (takes_of rfl rfl rfl rfl) fun _ _ _ _ z => z) (pa_cons (pv 0) (pa_cons (pv 1) pa_nil))))), ?_⟩
    exact ⟨.str "clear", rfl, d, _, .ref fc, rfl, rfl, ⟨es, n, _, KD.at_, KD.lit, nc, rfl⟩, rfl, b, rfl, v, rfl, hx⟩
/-! ### _law_heard -/
theorem caught_of {X : Xs} {H : Hp} {a : Addr} {oe : Obj} {D : Addr} {d : Option Addr} (hz : Zc (.ref D) d oe) (hf : ∃ us, oe.data = .fields us) (na : H a = none) (hd : ∀ dd, d = some dd → ∃ fs, H dd = some (.xd fs)) : IsX (upd H a (TX oe a)) a D :=
  ⟨oe, d, upd_same, hz, hf, fun dd e => by
    obtain ⟨fs, z⟩ := hd dd e
    exact ⟨fs, (upd_ne (ne_of_none z na)).trans z⟩⟩
theorem caught_fs {X : Xs} {H : Hp} {a : Addr} {oe : Obj} {D dd : Addr} {fs : List (Str × V)} (hz : Zc (.ref D) (some dd) oe) (hf : ∃ us, oe.data = .fields us) (na : H a = none) (hd : H dd = some (.xd fs)) : IsF (upd H a (TX oe a)) a D fs :=
  ⟨oe, dd, upd_same, hz, hf, (upd_ne (ne_of_none hd na)).trans hd⟩
theorem same_del {H H2 : Hp} {a : Addr} {o : HO} (na : H a = none) (s : Same (upd H a o) H2) : Same H (delH H2 a) := fun c u e => by
  have ne : c ≠ a := ne_of_none e na
  rw [delH_ne ne]
  exact s _ _ ((upd_ne ne).trans e)
theorem Wd43.i5 {K : PySem.W.Frag} {H : Hp} {r : Rf} {ws : List Str} (h : Wd43 K H r ws) : r.ix < 5 := by
  cases h <;> simp [Rf.ix]
theorem thr43 {X : Xs} {BE : Addr} {E : XK} {G : XH} {r : Rf} (i5 : r.ix < 5) (h : ∀ H' d, G H' → (∀ a oe, H' a = none → Zc (.ref (at43 X BE r.ix)) d oe → (∃ us, oe.data = .fields us) → Caught X (upd H' a (TX oe a)) a r) → E (.ref (at43 X BE r.ix)) d H') : Thr X E G r := by
  cases r with
  | step => exact fun H' g => h H' none g fun a oe na hz hf => caught_of (X := X) hz hf na (fun dd e => by cases e)
  | such v => exact fun H' dd g hd => h H' (some dd) g fun a oe na hz hf => caught_fs (X := X) hz hf na hd
  | amount => exact fun H' g => h H' none g fun a oe na hz hf => caught_of (X := X) hz hf na (fun dd e => by cases e)
  | ring z => exact fun H' dd g hd => h H' (some dd) g fun a oe na hz hf => caught_fs (X := X) hz hf na hd
  | much z n => exact fun H' dd g hd => h H' (some dd) g fun a oe na hz hf => caught_fs (X := X) hz hf na hd
  | full => exact absurd i5 (by decide)
/-- what is heard -/
inductive Hd43 (K : PySem.W.Frag) (nos : List Str) (H : Hp) (M : Bk) : Int → V → List Str → Prop
  | st {v : V} {r : Rf} {ws : List Str} : StR K nos H M v r → Wd43 K H r ws → Hd43 K nos H M 0 v ws
  | dnP {t : Addr} {z : Str} {j : Nat} {m : Int} : H t = some (.tup [.str "pay", .str z, .int m]) → M.names[j]? = some z → 1 ≤ m → m ≤ mostP M j z → FallOk M [(z, m)] → Hd43 K nos H M 0 (.ref t) ["done"]
  | dnC {t : Addr} {z : Str} {m : Int} {r : List Str} : H t = some (.tup [.str "clear", .str z, .int m]) → ClearOk M z m r → Hd43 K nos H M 0 (.ref t) ["done"]
  | py {t : Addr} {x v a : V} {r : Rf} {ws : List Str} : H t = some (.tup [x, v, a]) → PyR K H M v a r → Wd43 K H r ws → Hd43 K nos H M 1 (.ref t) ws
  | cl {t : Addr} {x v a : V} {r : Rf} {ws : List Str} : H t = some (.tup [x, v, a]) → ClR K H M v a r → Wd43 K H r ws → Hd43 K nos H M 2 (.ref t) ws
  | wv {l : Addr} {xs : List V} {W : List (Str × Str × Int)} {N : Bk} {v : V} {r : Rf} {ws : List Str} : H l = some (.lst xs) → (∀ (i : Nat) (x : V) (p : Str × Str × Int), xs[i]? = some x → W[i]? = some p → StAt H x p) → Wv M W N → xs[W.length]? = some v → StR K nos H N v r → N.Ok → Closed N → Wd43 K H r ws → Hd43 K nos H M 3 (.ref l) ws
abbrev sLHd : Stmt := topS 67
abbrev nLHd : List Str := ["_law_way", "_law_book", "_law_step", "_law_e"]
theorem scLHd : FnScope nLHd ["_law_way", "_law_book", "_law_step"] (defScope sLHd) := ⟨rfl, rfl, rfl, by decide +kernel, rfl, by decide +kernel, by decide +kernel⟩
def spLHd (K : PySem.W.Frag) (C : Addr) (nos : List Str) : Sp := fun vs H Q _ => ∃ (n : Int) (b : Addr) (M : Bk) (v : V) (ws : List Str), vs = [.int n, .ref b, v] ∧ BookAt K C H b M ∧ M.Ok ∧ Closed M ∧ Hd43 K nos H M n v ws ∧ ∀ t H', Same H H' → H' t = some (.tup (ws.map V.str)) → Q (.ref t) H'
def spPyO (K : PySem.W.Frag) (C : Addr) (X : Xs) : Sp := fun vs H Q E => spPayO K C vs H Q E ∨ spPyR K C X vs H Q E
set_option maxHeartbeats 2000000 in
theorem ok_lhd {f f0 f1 f2 f3 f4 C BE : Addr} {fd fd0 fd1 fd2 fd3 fd4 : FuncData} {X : Xs} {nos : List Str} (F : Fun K "_law_heard" "_law_heard" sLHd f fd) (X4 : X43 K mg X BE) (LW : HasU P w K mg base 2 "_law_word" ["_law_e"] (spLWd K X) f0 fd0) (ST : HasX P w K mg base 10 "stepped" ["book", "step"] (spStO K C X nos) f1 fd1)
    (PO : HasX P w K mg base 8 "pay_on" ["book", "who", "amount"] (spPyR K C X) f2 fd2) (CR : HasX P w K mg base 9 "clear_ring" ["book", "who", "amount"] (spClR2 K C X) f3 fd3) (BW : HasX P w K mg base 11 "by_weaving" ["book", "weaving"] (spWvR K C X nos) f4 fd4) :
    FnG P w K mg base CX0 12 f fd ["_law_way", "_law_book", "_law_step"] (spLHd K C nos) := by
  refine okG0 F scLHd (fun vs H Q E h => ?_) (fun cdv Ar outer s H vs Q E hr hgd h => ?_)
  · obtain ⟨_, _, _, _, _, rfl, _⟩ := h
    rfl
  · obtain ⟨n, b, M, v, ws, rfl, hb, ok, cl, h, q⟩ := h
    have hr10 := hr.mono (show 10 ≤ 11 by decide)
    have hr9 := hr.mono (show 9 ≤ 11 by decide)
    have hr8 := hr.mono (show 8 ≤ 11 by decide)
    refine ⟨_, (pss_cons (ps_try_mixT (Wo := fun _ _ _ _ => False) rfl rfl scLHd.nd (fun _ _ ⟨_, _, _, _, _, _, _, _, _, _, _, _, _, _, _, _, z⟩ => z.elim) (fun W pn xe tk _ => (pss_one (ps_if (pt_cmpR op_eq (pv 0) pe_int (nomark _)) (pss_one (ps_expr (pe_callS ST.ok hr10 (by rfl) ST.g ST.kp ST.b (fun σ => passAt tk σ) (pa_cons (pv 1) (pa_cons (pv 2) pa_nil))))) (pss_one (ps_if (pt_cmpR op_eq (pv 0) pe_int (nomark _)) (pss_one (ps_expr (pe_callS PO.ok hr8 (by rfl) PO.g PO.kp PO.b (fun σ => passAt tk σ) (pa_cons (pv 1) (pa_cons (pe_ix (ix_tupS (K := K) rfl) (pv 2) pe_int (fun _ _ => rfl)) (pa_cons (pe_ix (ix_tupS (K := K) rfl) (pv 2) pe_int (fun _ _ => rfl)) pa_nil)))))) (pss_one (ps_if (pt_cmpR op_eq (pv 0) pe_int (nomark _)) (pss_one (ps_expr (pe_callS CR.ok hr9 (by rfl) CR.g CR.kp CR.b (fun σ => passAt tk σ) (pa_cons (pv 1) (pa_cons (pe_ix (ix_tupS (K := K) rfl) (pv 2) pe_int (fun _ _ => rfl)) (pa_cons (pe_ix (ix_tupS (K := K) rfl) (pv 2) pe_int (fun _ _ => rfl)) pa_nil)))))) (pss_one (ps_expr (pe_callS BW.ok hr (by rfl) BW.g BW.kp BW.b (fun σ => passAt tk σ) (pa_cons (pv 1) (pa_cons (pv 2) pa_nil)))))))))))) (.named (i := 3) rfl rfl (.many (.cons ⟨rfl, by decide, .inl X4.gS⟩ (.cons ⟨rfl, by decide, .inl X4.gN⟩ (.cons ⟨rfl, by decide, .inl X4.gA⟩ (.cons ⟨rfl, by decide, .inl X4.gR⟩ (.cons ⟨rfl, by decide, .inl X4.gT⟩ .nil))))) (by show 5 ≤ sizeLine; decide)) (fun a oe cls d pn hB hz hf => (pss_one (ps_ret (pe_callU (E := fun _ _ _ => False) hB hz hf LW.ok (roomU (hr.mono (by decide)) hgd) (by rfl) LW.g LW.kp LW.b (pa_cons (pv 3) pa_nil))))) .nil)) (pss_one (ps_ret (pe_tup (pa_cons pe_str pa_nil))))), ?_⟩
    have fin : ∀ {r : Rf} {ws' : List Str} {a : Addr} {oe : Obj} {H1 : Hp}, ws' = ws → Same H H1 → H1 a = none → Wd43 K H r ws' → Caught X (upd H1 a (TX oe a)) a r → spLWd K X [.ref a] (upd H1 a (TX oe a)) (fun v H2 => Q v (delH H2 a)) (fun _ _ _ => False) := fun {r ws' a oe H1} ew s1 na hw hc => by
      subst ew
      have s2 : Same H1 (upd H1 a (TX oe a)) := same_upd na
      refine ⟨a, r, ws', rfl, hc, hw.same (s1.trans s2), fun t H2 s3 ht => ?_⟩
      refine q t _ (s1.trans (same_del na s3)) ?_
      have : t ≠ a := fun z => by
        rw [z, s3 _ _ upd_same] at ht
        cases ht
      rw [delH_ne this]
      exact ht
    have dn : ∀ {H1 : Hp}, ws = (["done"] : List Str) → Same H H1 → ∀ t, H1 t = none → Q (.ref t) (upd H1 t (.tup [.str "done"])) := fun {H1} ew s1 t nt => q t _ (s1.trans (same_upd nt)) (by rw [upd_same, ew]; rfl)
    cases h with
    | @st _ r _ hs hw =>
      refine ⟨.int 0, rfl, rfl, _, rfl, ?_⟩
      rw [decide_eq_true rfl]
      exact iteT ⟨.ref b, rfl, v, rfl, .inr ⟨b, M, v, r, rfl, hb, ok, cl, hs, thr43 (BE := BE) hw.i5 fun H' d s1 hc => ⟨true, X4.five hw.i5, fun _ a na => ⟨.ref a, rfl, fun oe hz hf => fin rfl s1 na hw (hc a oe na hz hf)⟩, fun z => (nomatch z)⟩⟩⟩
    | @dnP t z j m ht ej m1 mm fo =>
      refine ⟨.int 0, rfl, rfl, _, rfl, ?_⟩
      rw [decide_eq_true rfl]
      exact iteT ⟨.ref b, rfl, .ref t, rfl, .inl (.inl ⟨b, t, M, z, j, m, rfl, ht, hb, ok, ej, m1, mm, fo, fun b' H2 s2 nb hb2 => ⟨by show 1 ≤ sizeLine; decide, dn rfl s2⟩⟩)⟩
    | @dnC t z m r ht co =>
      refine ⟨.int 0, rfl, rfl, _, rfl, ?_⟩
      rw [decide_eq_true rfl]
      exact iteT ⟨.ref b, rfl, .ref t, rfl, .inl (.inr ⟨b, t, M, z, m, r, rfl, ht, hb, co, fun b' H2 s2 nb hb2 => ⟨by show 1 ≤ sizeLine; decide, dn rfl s2⟩⟩)⟩
    | @py t x v a r _ ht hp hw =>
      have sq : SqT K H t [x, v, a] := .inl (.inl ht)
      refine ⟨.int 1, rfl, rfl, _, rfl, ?_⟩
      rw [decide_eq_false (fun e => by cases e)]
      refine iteF ⟨.int 1, rfl, rfl, _, rfl, ?_⟩
      rw [decide_eq_true rfl]
      exact iteT ⟨.ref b, rfl, .ref t, rfl, t, _, 1, v, rfl, rfl, sq, atI_nat (j := 1) rfl, .ref t, rfl, t, _, 2, a, rfl, rfl, sq, atI_nat (j := 2) rfl, b, M, v, a, r, rfl, hb, ok, hp, thr43 (BE := BE) hw.i5 fun H' d s1 hc => ⟨true, X4.five hw.i5, fun _ a na => ⟨.ref a, rfl, fun oe hz hf => fin rfl s1 na hw (hc a oe na hz hf)⟩, fun z => (nomatch z)⟩⟩
    | @cl t x v a r _ ht hp hw =>
      have sq : SqT K H t [x, v, a] := .inl (.inl ht)
      refine ⟨.int 2, rfl, rfl, _, rfl, ?_⟩
      rw [decide_eq_false (fun e => by cases e)]
      refine iteF ⟨.int 2, rfl, rfl, _, rfl, ?_⟩
      rw [decide_eq_false (fun e => by cases e)]
      refine iteF ⟨.int 2, rfl, rfl, _, rfl, ?_⟩
      rw [decide_eq_true rfl]
      exact iteT ⟨.ref b, rfl, .ref t, rfl, t, _, 1, v, rfl, rfl, sq, atI_nat (j := 1) rfl, .ref t, rfl, t, _, 2, a, rfl, rfl, sq, atI_nat (j := 2) rfl, b, M, v, a, r, rfl, hb, ok, cl, hp, thr43 (BE := BE) hw.i5 fun H' d s1 hc => ⟨true, X4.five hw.i5, fun _ a na => ⟨.ref a, rfl, fun oe hz hf => fin rfl s1 na hw (hc a oe na hz hf)⟩, fun z => (nomatch z)⟩⟩
    | @wv l xs W N v r _ hl st wv ev hs oN cN hw =>
      refine ⟨.int 3, rfl, rfl, _, rfl, ?_⟩
      rw [decide_eq_false (fun e => by cases e)]
      refine iteF ⟨.int 3, rfl, rfl, _, rfl, ?_⟩
      rw [decide_eq_false (fun e => by cases e)]
      refine iteF ⟨.int 3, rfl, rfl, _, rfl, ?_⟩
      rw [decide_eq_false (fun e => by cases e)]
      exact iteF ⟨.ref b, rfl, .ref l, rfl, b, l, M, N, xs, W, v, r, rfl, hb, hl, st, wv, ev, hs, oN, cN, thr43 (BE := BE) hw.i5 fun H' d s1 hc => ⟨true, X4.five hw.i5, fun _ a na => ⟨.ref a, rfl, fun oe hz hf => fin rfl s1 na hw (hc a oe na hz hf)⟩, fun z => (nomatch z)⟩⟩

/-! ### _law_most_heard -/
abbrev sLMh : Stmt := topS 68
abbrev nLMh : List Str := ["_law_book", "_law_who", "_law_kind", "_law_e"]
theorem scLMh : FnScope nLMh ["_law_book", "_law_who", "_law_kind"] (defScope sLMh) := ⟨rfl, rfl, rfl, by decide +kernel, rfl, by decide +kernel, by decide +kernel⟩
structure HasMostX (P : Program) (w : World) (K : PySem.W.Frag) (mg : Str → Option Value) (base : Heap) (k : Nat) (sp : Sp) (f : Addr) (fd : FuncData) : Prop where
  ok : FnOk P w K mg base (L2.CX P w) k f fd psMost sp
  g : mg "most_of" = some (.ref f)
  kp : PySem.W.keepIn K (.ref f) = true
  kb : KBn K fd psMost 2 ["word"] gApp gAppV
def spLMh (K : PySem.W.Frag) (C : Addr) : Sp := fun vs H Q _ => ∃ (b : Addr) (M : Bk) (v : V) (d : PyData) (wd : Str), vs = [.ref b, v, .str wd] ∧ (wd = "pay" ∨ wd = "clear") ∧ BookAt K C H b M ∧ NamesOk M.names ∧ Dt K H v d ∧ ShortD d ∧ ShowOk d ∧ hasD M d = false ∧ ∀ t H', Same H H' → H' t = some (.tup [.str "such", .str d.shown]) → Q (.ref t) H'
set_option maxHeartbeats 2000000 in
theorem ok_lmh {f f0 f1 C BE : Addr} {fd fd0 fd1 : FuncData} {X : Xs} (F : Fun K "_law_most_heard" "_law_most_heard" sLMh f fd) (X4 : X43 K mg X BE) (LW : HasU P w K mg base 2 "_law_word" ["_law_e"] (spLWd K X) f0 fd0) (MO : HasMostX P w K mg base 8 (spMoN2 K C X.N) f1 fd1) : FnG P w K mg base CX0 9 f fd ["_law_book", "_law_who", "_law_kind"] (spLMh K C) := by
  refine okG0 F scLMh (fun vs H Q E h => ?_) (fun cdv Ar outer s H vs Q E hr hgd h => ?_)
  · obtain ⟨_, _, _, _, _, rfl, _⟩ := h
    rfl
  · obtain ⟨b, M, v, d, wd, rfl, hw, hb, nz, hv, sd, so, no, q⟩ := h
    have hrm := hr
    refine ⟨_, (pss_cons (ps_try_mixT (Wo := fun _ _ _ _ => False) rfl rfl scLMh.nd (fun _ _ ⟨_, _, _, _, _, _, _, _, _, _, _, _, _, _, _, _, z⟩ => z.elim) (fun W pn xe tk _ => (pss_one (ps_expr (pe_callNS MO.ok hrm (by rfl) MO.g MO.kp MO.kb (fun σ => passAt tk σ) (pa_cons (pv 0) (pa_cons (pv 1) pa_nil)) (pk_cons (pv 2) pk_nil))))) (.named (i := 3) rfl rfl (.many (.cons ⟨rfl, by decide, .inl X4.gN⟩ (.cons ⟨rfl, by decide, .inl X4.gR⟩ .nil)) (by show 2 ≤ sizeLine; decide)) (fun a oe cls d pn hB hz hf => (pss_one (ps_ret (pe_callU (E := fun _ _ _ => False) hB hz hf LW.ok (roomU (hr.mono (by decide)) hgd) (by rfl) LW.g LW.kp LW.b (pa_cons (pv 3) pa_nil))))) .nil)) (pss_one (ps_ret (pe_tup (pa_cons pe_str pa_nil))))), ?_⟩
    have i5 : Rf.ix (.such v) < 5 := by simp [Rf.ix]
    have hN : PySem.W.exmAny K (.ref X.N) [.ref X.N, .ref X.R] = some true := any_hit (X4.exm 1 1 (by decide) (by decide)) (any_one (X4.exm 1 3 (by decide) (by decide)))
    refine ⟨.ref b, rfl, v, rfl, .str wd, rfl, rfl, rfl, .ref b, v, wd, rfl, hw, b, M, v, d, rfl, hb, nz, hv, sd, no, fun H' dd s1 nd hd => ⟨true, hN, fun _ a na => ⟨.ref a, rfl, fun oe hz hf => ?_⟩, fun z => (nomatch z)⟩⟩
    have s2 : Same H' (upd H' a (TX oe a)) := same_upd na
    refine ⟨a, .such v, _, rfl, caught_fs (X := X) hz hf na hd, .such (Dt.same (s1.trans s2) _ hv) so, fun t H2 s3 ht => ?_⟩
    refine q t _ (s1.trans (same_del na s3)) ?_
    have : t ≠ a := fun z => by
      rw [z, s3 _ _ upd_same] at ht
      cases ht
    rw [delH_ne this]
    exact ht

end
end Rc

namespace Rc
open PySem PySem.Spec PyProof.Rows L2 RZ
/-- words that may be read -/
theorem int_asc {n : Int} (h : 0 ≤ n) : Asc (PyData.shown (.int n)) := by
  obtain ⟨k, rfl⟩ := Int.eq_ofNat_of_zero_le h
  have e : PyData.shown (.int (k : Int)) = Str.ofString (toString ((k : Nat) : Int)) := by simp only [PyData.shown]
  rw [e, SX.num_S]
  intro c hc
  have := TL.numL_digits k c (by simpa [SX.S] using hc)
  omega
theorem asc3 {a b c : Str} (ha : Asc a) (hb : Asc b) (hc : Asc c) : ∀ t ∈ [a, b, c], Asc t := fun t h => by
  rcases List.mem_cons.mp h with rfl | h
  · exact ha
  · exact asc2 hb hc t h
theorem most_bd {zs : List Str} {D : Md} (g : Gs zs D) (gb : Gb D) {wd z : Str} (hz : z ∈ zs) (hw : wd = "pay" ∨ wd = "clear") : 0 ≤ mostW zs D wd z ∧ mostW zs D wd z ≤ 10 ^ 58 := by
  by_cases c : 0 < mostW zs D wd z
  · exact ⟨by omega, (mostW_can g gb hz hw c).1⟩
  · refine ⟨?_, by have : (0 : Int) ≤ 10 ^ 58 := by decide
                   omega⟩
    rcases hw with rfl | rfl
    · rw [show mostW zs D "pay" z = mostP (bkOf zs D) (zs.idxOf z) z from if_pos rfl]
      exact (mostP_big g _ z (idx_get hz)).1
    · rw [show mostW zs D "clear" z = mostC zs (duesM (bkOf zs D)) z from if_neg clear_ne]
      cases hR : ringM zs (nxD zs D) z with
      | none => rw [mostC_none (show ringM zs (nxOf zs (duesM (bkOf zs D))) z = none from hR)]; exact Int.le_refl _
      | some r =>
        rw [mostC_some (show ringM zs (nxOf zs (duesM (bkOf zs D))) z = some r from hR)]
        obtain ⟨ne, _, rd⟩ := ring_least (M := bkOf zs D) g.ok g.closed hz hR
        obtain ⟨y, hy, e⟩ := List.mem_map.mp (least_mem (ns := r.map (amtAt zs (duesM (bkOf zs D)))) (by simpa using ne)).1
        rw [← e]
        unfold amtAt
        split
        · exact Int.le_refl _
        · rename_i n hn
          have : 1 ≤ n.2 ∧ n.2 ≤ 10 ^ 58 := (g.due (getD_mem hn)).2
          omega
/-- the first thing of a step -/
inductive Kd43 : PyData → Prop
  | pay : Kd43 (.str "pay")
  | clear : Kd43 (.str "clear")
  | cap : Kd43 (.str "Pay")
  | give : Kd43 (.str "give")
  | non : Kd43 .none
  | lst : Kd43 (.list [.str "pay"])
  | int : Kd43 (.int 5)
  | tup : Kd43 (.tuple [.str "pay"])
def nos43 : List Str := ["Pay", "give"]
def kk43 : List Str := [PyData.shown (.str "pay"), PyData.shown (.str "clear")]
theorem Kd43.show {d : PyData} (h : Kd43 d) : ShowOk d := by
  cases h with
  | _ => exact ⟨by decide +kernel, .inl (by decide +kernel), by decide +kernel, .inr (by decide +kernel)⟩
/-- a word, or none -/
theorem Kd43.or {d : PyData} (h : Kd43 d) : (∃ wd, d = .str wd ∧ (wd = "pay" ∨ wd = "clear") ∧ decide (d.shown ∈ kk43) = true) ∨ (decide (d.shown ∈ kk43) = false ∧ (strD d = false ∨ ∃ wd ∈ nos43, d = .str wd)) := by
  cases h with
  | pay => exact .inl ⟨_, rfl, .inl rfl, by decide +kernel⟩
  | clear => exact .inl ⟨_, rfl, .inr rfl, by decide +kernel⟩
  | cap => exact .inr ⟨by decide +kernel, .inr ⟨_, by decide +kernel, rfl⟩⟩
  | give => exact .inr ⟨by decide +kernel, .inr ⟨_, by decide +kernel, rfl⟩⟩
  | non => exact .inr ⟨by decide +kernel, .inl rfl⟩
  | lst => exact .inr ⟨by decide +kernel, .inl rfl⟩
  | int => exact .inr ⟨by decide +kernel, .inl rfl⟩
  | tup => exact .inr ⟨by decide +kernel, .inl rfl⟩
/-! ### data, whatever becomes of the pot -/
def DB (K : PySem.W.Frag) (p : Addr) (H : Hp) (v : V) (d : PyData) : Prop := ∀ G : Hp, But p H G → Dt K G v d
theorem DB.step {K : PySem.W.Frag} {p : Addr} {H H' : Hp} {v : V} {d : PyData} (h : DB K p H v d) (b : But p H H') : DB K p H' v d := fun G g => h G (b.trans g)
theorem DB.dt {K : PySem.W.Frag} {p : Addr} {H : Hp} {v : V} {d : PyData} (h : DB K p H v d) : Dt K H v d := h H fun _ _ _ e => e
/-- a step, spoilt or not -/
inductive Sp43 (K : PySem.W.Frag) (p : Addr) (H : Hp) : V → Prop
  | three {t : Addr} {k u a : V} {dk du da : PyData} : H t = some (.tup [k, u, a]) → t ≠ p → DB K p H k dk → Kd43 dk → DB K p H u du → ShowOk du → ShortD du → Asc du.shown → DB K p H a da → ShortD da → Sp43 K p H (.ref t)
  | no {v : V} {d : PyData} : DB K p H v d → tupB d = false → Sp43 K p H v
  | len {t : Addr} {xs : List V} {ds : List PyData} : H t = some (.tup xs) → t ≠ p → (∀ G, But p H G → DtAll K G xs ds) → xs.length ≠ 3 → Sp43 K p H (.ref t)
theorem Sp43.step {K : PySem.W.Frag} {p : Addr} {H H' : Hp} {v : V} (h : Sp43 K p H v) (s : But p H H') : Sp43 K p H' v := by
  cases h with
  | three a tp b c d e f g h i => exact .three (s _ _ tp a) tp (b.step s) c (d.step s) e f g (h.step s) i
  | no a b => exact .no (a.step s) b
  | len a tp b c => exact .len (s _ _ tp a) tp (fun G g => b G (s.trans g)) c
/-- what is due for it -/
inductive Du43 (K : PySem.W.Frag) (zs : List Str) (D : Md) (p : Addr) (H : Hp) : V → List Str → Prop
  | no {v : V} {r : Rf} {ws : List Str} : (∀ G, But p H G → StR K nos43 G (bkOf zs D) v r) → (∀ G, But p H G → Wd43 K G r ws) → (∀ x ∈ ws, Asc x) → Du43 K zs D p H v ws
  | dn {t : Addr} {wd z : Str} {m : Int} {r : List Str} : H t = some (.tup [.str wd, .str z, .int m]) → t ≠ p → CanD zs D wd z m r → Du43 K zs D p H (.ref t) ["done"]
theorem Du43.step {K : PySem.W.Frag} {zs : List Str} {D : Md} {p : Addr} {H H' : Hp} {v : V} {ws : List Str} (h : Du43 K zs D p H v ws) (s : But p H H') : Du43 K zs D p H' v ws := by
  cases h with
  | no a b c => exact .no (fun G g => a G (s.trans g)) (fun G g => b G (s.trans g)) c
  | dn a tp c => exact .dn (s _ _ tp a) tp c
section
variable {P : Program} {w : World} {K : PySem.W.Frag} {mg : Str → Option Value} {base : Heap}
/-! ### _law_is_whole -/
abbrev sLIw : Stmt := topS 69
theorem scLIw : FnScope ["_law_thing"] ["_law_thing"] (defScope sLIw) := ⟨rfl, rfl, rfl, by decide +kernel, rfl, by decide +kernel, by decide +kernel⟩
theorem ok_liw {f : Addr} {fd : FuncData} (F : Fun K "_law_is_whole" "_law_is_whole" sLIw f fd) (B : Blt mg) : FnOk P w K mg base CX0 1 f fd ["_law_thing"] (spBool K amountD) := by
  refine F.ok scLIw (fun vs H Q E h => ?_) (fun cdv A outer s H vs Q E hr h => ?_)
  · obtain ⟨v, d, rfl, _⟩ := h
    rfl
  · obtain ⟨v, d, rfl, hd, hz, q⟩ := h
    refine ⟨_, (pss_one (ps_ret (pe_and (pe_callB call_isi (by rfl) B.isi (by decide +kernel) (pa_cons (pv 0) (pa_cons (pe_bltn (v := .ty "int") (by rfl) B.int (by decide +kernel) rfl) pa_nil))) (pe_and (pe_not (pe_callB call_isi (by rfl) B.isi (by decide +kernel) (pa_cons (pv 0) (pa_cons (pe_bltn (v := .ty "bool") (by rfl) B.bool (by decide +kernel) rfl) pa_nil)))) (pe_one (pe_cmpR op_gt (pv 0) pe_int (nomark _))))))), ?_⟩
    have q1 := q H (Same.refl _)
    refine ⟨v, rfl, v, .ty "int", _, _, _, rfl, .ty "int", hd.ty, kit_int d, _, rfl, ?_⟩
    cases c : (wholeD d || boolD d) with
    | false =>
      have e : amountD d = false := by cases d <;> first | rfl | cases c
      rw [e] at q1
      exact iteF q1
    | true =>
      refine iteT ⟨v, rfl, v, .ty "bool", _, _, _, rfl, .ty "bool", hd.ty, kit_bool d, _, rfl, ?_⟩
      cases cb : boolD d with
      | true =>
        have e : amountD d = false := by cases d <;> first | rfl | cases cb
        rw [e] at q1
        exact ⟨_, rfl, iteF q1⟩
      | false =>
        obtain ⟨n, rfl⟩ : ∃ n, d = .int n := by cases d <;> first | exact ⟨_, rfl⟩ | (simp [wholeD, boolD] at c; done) | (simp [boolD] at cb; done)
        cases hd
        exact ⟨_, rfl, iteT ⟨_, rfl, _, _, rfl, rfl, q1⟩⟩
/-! ### _law_due -/
abbrev sLDu : Stmt := topS 70
abbrev nLDu : List Str := ["_law_model_here", "_law_step", "_law_most_here"]
theorem scLDu : FnScope nLDu ["_law_model_here", "_law_step"] (defScope sLDu) := ⟨rfl, rfl, rfl, by decide +kernel, rfl, by decide +kernel, by decide +kernel⟩
def spLDu (K : PySem.W.Frag) : Sp := fun vs H Q _ => ∃ (m : MdA) (D : Md) (zs : List Str) (v : V) (p : Addr), vs = [.ref m.m, v] ∧ ModelAt K H zs m D ∧ Gs zs D ∧ Gb D ∧ Sp43 K p H v ∧ ∀ t ws H', Same H H' → Du43 K zs D p H' v ws → H' t = some (.tup (ws.map V.str)) → Q (.ref t) H'
set_option maxHeartbeats 4000000 in
theorem ok_ldu {f f1 f2 f3 : Addr} {fd fd1 fd2 fd3 : FuncData} (F : Fun K "_law_due" "_law_due" sLDu f fd) (B : Blt mg) (B2 : Blt2 mg) (B3 : Blt3 mg) (IW : Has P w K mg base 1 "_law_is_whole" ["_law_thing"] (spBool K amountD) f1 fd1) (LR : Has P w K mg base 5 "_law_ring" ["_law_model_here", "_law_who"] (spLRg K) f2 fd2)
    (MO : Has P w K mg base 6 "_law_most" ["_law_model_here", "_law_step", "_law_who"] (spLMo K) f3 fd3) : FnG P w K mg base CX0 7 f fd ["_law_model_here", "_law_step"] (spLDu K) := by
  refine okG0 F scLDu (fun vs H Q E h => ?_) (fun cdv Ar outer s H vs Q E hr hgd h => ?_)
  · obtain ⟨_, _, _, _, _, rfl, _⟩ := h
    rfl
  · obtain ⟨m, D, zs, v, p, rfl, hM, g, gb, hs, q⟩ := h
    have hu := hu_of hr
    have hr0 := hr.mono (show 1 ≤ 6 by decide)
    have hr5 := hr.mono (show 5 ≤ 6 by decide)
    refine ⟨_, (pss_cons (ps_if (PW.pt (pw_or (pt_not (pt_val (pe_callB call_isi (by rfl) B.isi (by decide +kernel) (pa_cons (pv 1) (pa_cons (pe_bltn (v := .ty "tuple") (by rfl) B3.tuple (by decide +kernel) rfl) pa_nil))))) (pw_or (pt_cmpR op_ne (pe_callB call_len_seq (by rfl) B.len PySem.boot_len (pa_cons (pv 1) pa_nil)) pe_int (nomark _)) (pw_or1 (pt_cmpR op_notIn_seq (pe_callB (call_repr hr hgd) (by rfl) B2.repr (by decide +kernel) (pa_cons (pe_ix ix_tup (pv 1) pe_int (fun _ _ => rfl)) pa_nil)) (pe_tup (pa_cons (pe_callB (call_repr hr hgd) (by rfl) B2.repr (by decide +kernel) (pa_cons pe_str pa_nil)) (pa_cons (pe_callB (call_repr hr hgd) (by rfl) B2.repr (by decide +kernel) (pa_cons pe_str pa_nil)) pa_nil))) (by rfl)))))) (pss_one (ps_ret (pe_tup (pa_cons pe_str pa_nil)))) pss_nil) (pss_cons (ps_if (PW.pt (pw_or (pt_not (pt_val (pe_callB call_isi (by rfl) B.isi (by decide +kernel) (pa_cons (pe_ix ix_tup (pv 1) pe_int (fun _ _ => rfl)) (pa_cons (pe_bltn (v := .ty "str") (by rfl) B.str (by decide +kernel) rfl) pa_nil))))) (pw_or1 (pt_cmpR op_notIn_seq (pe_ix ix_tup (pv 1) pe_int (fun _ _ => rfl)) (pe_dget hu (pv 0) pe_str (fun _ _ => rfl)) (by rfl))))) (pss_one (ps_ret (pe_tup (pa_cons pe_str (pa_cons (pe_callB (call_repr hr hgd) (by rfl) B2.repr (by decide +kernel) (pa_cons (pe_ix ix_tup (pv 1) pe_int (fun _ _ => rfl)) pa_nil)) pa_nil))))) pss_nil) (pss_cons (ps_if (pt_not (pt_val (pe_call IW.ok hr0 (by rfl) IW.g IW.kp IW.b .nil pass0 (pa_cons (pe_ix ix_tup (pv 1) pe_int (fun _ _ => rfl)) pa_nil)))) (pss_one (ps_ret (pe_tup (pa_cons pe_str pa_nil)))) pss_nil) (pss_cons (ps_if (PW.pt (pw_and (pt_cmpR op_eq (pe_ix ix_tup (pv 1) pe_int (fun _ _ => rfl)) pe_str (nomark _)) (pw_and1 (pt_cmpR op_isN (pe_call LR.ok hr5 (by rfl) LR.g LR.kp LR.b .nil pass0 (pa_cons (pv 0) (pa_cons (pe_ix ix_tup (pv 1) pe_int (fun _ _ => rfl)) pa_nil))) pe_non (nomark _))))) (pss_one (ps_ret (pe_tup (pa_cons pe_str (pa_cons (pe_callB (call_repr hr hgd) (by rfl) B2.repr (by decide +kernel) (pa_cons (pe_ix ix_tup (pv 1) pe_int (fun _ _ => rfl)) pa_nil)) pa_nil))))) pss_nil) (pss_cons (ps_set (i := 2) scLDu.nd rfl (.inl rfl) (pe_call MO.ok hr (by rfl) MO.g MO.kp MO.b .nil pass0 (pa_cons (pv 0) (pa_cons (pe_ix ix_tup (pv 1) pe_int (fun _ _ => rfl)) (pa_cons (pe_ix ix_tup (pv 1) pe_int (fun _ _ => rfl)) pa_nil))))) (pss_one (ps_ret (pe_ifExp (pt_cmpR op_gt (pe_ix ix_tup (pv 1) pe_int (fun _ _ => rfl)) (pv 2) (nomark _)) (pe_tup (pa_cons pe_str (pa_cons (pe_callB (call_repr hr hgd) (by rfl) B2.repr (by decide +kernel) (pa_cons (pe_ix ix_tup (pv 1) pe_int (fun _ _ => rfl)) pa_nil)) (pa_cons (pe_callB (call_repr hr hgd) (by rfl) B2.repr (by decide +kernel) (pa_cons (pv 2) pa_nil)) pa_nil)))) (pe_tup (pa_cons pe_str pa_nil)))))))))), ?_⟩
    -- a refusal is told
    have fin : ∀ {G : Hp} {r : Rf} {ws : List Str} {xs : List V}, Same H G → (∀ G', But p H G' → StR K nos43 G' (bkOf zs D) v r) → (∀ G', But p H G' → Wd43 K G' r ws) → (∀ x ∈ ws, Asc x) → xs = ws.map V.str → ∀ t, G t = none → Q (.ref t) (upd G t (.tup xs)) := fun {G r ws xs} s1 hs hw ha ex t nt => by
      subst ex
      have s2 := s1.trans (same_upd (o := .tup (ws.map V.str)) nt)
      exact q t ws _ s2 (.no (fun G' b => hs G' ((same_but s2).trans b)) (fun G' b => hw G' ((same_but s2).trans b)) ha) upd_same
    have astep : ∀ x ∈ (["step"] : List Str), Asc x := by decide +kernel
    cases hs with
    | @no _ d hv hb =>
      refine ⟨v, rfl, _, .ty "tuple", _, _, tupB d, rfl, .ty "tuple", hv.dt.ty, kit_tuple d, _, rfl, ?_⟩
      rw [hb]
      exact iteT (iteT ⟨by show 1 ≤ sizeLine; decide, fun t nt => fin (Same.refl _) (fun G' b => .no (.no (hv G' b) hb)) (fun _ _ => .step) astep rfl t nt⟩)
    | @len t xs ds ht tp da hl =>
      have sq : SqT K H t xs := .inl (.inl ht)
      have da0 := da H fun _ _ _ e => e
      refine ⟨.ref t, rfl, _, .ty "tuple", _, _, true, rfl, .ty "tuple", (Dt.tup sq da0).ty, kit_tuple (.tuple ds), _, rfl, iteF ?_⟩
      refine ⟨.ref t, rfl, t, _, rfl, .inr sq, rfl, _, rfl, ?_⟩
      rw [decide_eq_false (show ¬ V.int ((xs.length : Nat) : Int) = V.int 3 from fun e => hl (by have := V.int.inj e; omega))]
      exact iteT (iteT ⟨by show 1 ≤ sizeLine; decide, fun t' nt => fin (Same.refl _) (fun G' b => .no (.len (.inl (.inl (b _ _ tp ht))) (da G' b) hl)) (fun _ _ => .step) astep rfl t' nt⟩)
    | @three t k u a dk du da ht tp hk kd hu1 su sd au ha sa =>
      have sq : SqT K H t [k, u, a] := .inl (.inl ht)
      have dall : DtAll K H [k, u, a] [dk, du, da] := .cons hk.dt (.cons hu1.dt (.cons ha.dt .nil))
      have so := kd.show
      refine ⟨.ref t, rfl, _, .ty "tuple", _, _, true, rfl, .ty "tuple", (Dt.tup sq dall).ty, kit_tuple (.tuple [dk, du, da]), _, rfl, iteF ?_⟩
      refine ⟨.ref t, rfl, t, _, rfl, .inr sq, rfl, _, rfl, ?_⟩
      rw [decide_eq_true (show V.int (([k, u, a].length : Nat) : Int) = V.int 3 from rfl)]
      refine iteF ⟨.ref t, rfl, t, _, 0, k, rfl, rfl, sq, atI_nat (j := 0) rfl, k, dk, rfl, hk.dt, so.sh, so.tp, so.dp, so.ft, ?_⟩
      have sp := Kd43.pay.show
      have sc := Kd43.clear.show
      refine ⟨.str "pay", .str "pay", rfl, .str _, sp.sh, sp.tp, sp.dp, sp.ft, .str "clear", .str "clear", rfl, .str _, sc.sh, sc.tp, sc.dp, sc.ft, by show 2 ≤ sizeLine; decide, fun T1 nT1 => ?_⟩
      have s1 := same_upd (o := .tup [V.str (PyData.shown (.str "pay")), V.str (PyData.shown (.str "clear"))]) nT1
      have hT1 : upd H T1 (.tup [V.str (PyData.shown (.str "pay")), V.str (PyData.shown (.str "clear"))]) T1 = some (.tup (kk43.map V.str)) := upd_same
      generalize upd H T1 (.tup [V.str (PyData.shown (.str "pay")), V.str (PyData.shown (.str "clear"))]) = H1 at s1 hT1
      refine ⟨T1, _, rfl, .inr (.inl (.inl hT1)), rfl, flat_strs _, _, rfl, ?_⟩
      rw [inV_strs]
      have ht1 := s1 _ _ ht
      have sq1 : SqT K H1 t [k, u, a] := .inl (.inl ht1)
      have dall1 := DtAll.same s1 _ dall
      rcases kd.or with ⟨wd, rfl, hwd, hin⟩ | ⟨hin, hno⟩
      · rw [hin]
        obtain rfl : k = .str wd := by
          have h := hk.dt
          cases h
          rfl
        refine iteF ?_
        have hu2 := Dt.same s1 _ hu1.dt
        have ha2 := Dt.same s1 _ ha.dt
        have hM1 := model_same hM s1
        have ne : decide (V.str ("pay" : Str) = V.str "clear") = false := decide_eq_false (fun e => absurd (V.str.inj e) (by decide +kernel))
        refine ⟨.ref t, rfl, t, _, 1, u, rfl, rfl, sq1, atI_nat (j := 1) rfl, u, .ty "str", _, _, strD du, rfl, .ty "str", hu2.ty, kit_str du, _, rfl, ?_⟩
        have such : hasD (bkOf zs D) du = false → (2 : Nat) ≤ sizeLine ∧ ∀ t', H1 t' = none → Q (.ref t') (upd H1 t' (.tup [.str "such", .str du.shown])) := fun no => ⟨by decide, fun t' nt => fin (r := .such u) (ws := ["such", du.shown]) s1 (fun G' b => by
          rcases hwd with rfl | rfl
          · exact .pay (b _ _ tp ht) (.such (hu1 G' b) sd no)
          · exact .clear (b _ _ tp ht) (.such (hu1 G' b) sd no)) (fun G' b => .such (hu1 G' b) su) (asc2 (by decide +kernel) au) rfl t' nt⟩
        cases hstr : strD du with
        | false =>
          have no : hasD (bkOf zs D) du = false := by cases du <;> first | rfl | cases hstr
          refine iteT (iteT ⟨.ref t, rfl, t, _, 1, u, rfl, rfl, sq1, atI_nat (j := 1) rfl, u, du, rfl, hu2, su.sh, su.tp, su.dp, su.ft, such no⟩)
        | true =>
          obtain ⟨z, rfl⟩ : ∃ z, du = .str z := by cases du <;> first | exact ⟨_, rfl⟩ | cases hstr
          obtain rfl : u = .str z := by
            cases hu2
            rfl
          refine iteF ⟨.ref t, rfl, t, _, 1, .str z, rfl, rfl, sq1, atI_nat (j := 1) rfl, .ref m.m, rfl, m.m, .ref m.lo, rfl, hM1.g0, m.lo, _, rfl, .inl (.inl (.inl hM1.ho)), rfl, flat_strs _, _, rfl, ?_⟩
          rw [inV_strs]
          by_cases hz : z ∈ zs
          · rw [decide_eq_true hz]
            refine iteF ⟨.ref t, rfl, t, _, 2, a, rfl, rfl, sq1, atI_nat (j := 2) rfl, a, da, rfl, ha2, sa, fun H2 s2 => ⟨_, rfl, ?_⟩⟩
            have s12 := s1.trans s2
            have ht2 := s2 _ _ ht1
            have sq2 : SqT K H2 t [.str wd, .str z, a] := .inl (.inl ht2)
            have ha3 := Dt.same s2 _ ha2
            have hM2 := model_same hM1 s2
            have soz : ShowOk (.str z) := (nice_name (g.nz.nm z hz)).show (by decide)
            cases am : amountD da with
            | false =>
              refine iteT ⟨by show 1 ≤ sizeLine; decide, fun t' nt => fin (r := .amount) (ws := ["amount"]) s12 (fun G' b => ?_) (fun _ _ => .amount) (by decide +kernel) rfl t' nt⟩
              rcases hwd with rfl | rfl
              · exact .pay (b _ _ tp ht) (.amount (idx_get hz) (ha G' b) sa am)
              · exact .clear (b _ _ tp ht) (.amount hz (ha G' b) sa am)
            | true =>
              obtain ⟨n, rfl⟩ : ∃ n, da = .int n := by cases da <;> first | exact ⟨_, rfl⟩ | cases am
              obtain rfl : a = .int n := by
                cases ha3
                rfl
              have n1 : 1 ≤ n := of_decide_eq_true am
              refine iteF ⟨.ref t, rfl, t, _, 0, .str wd, rfl, rfl, sq2, atI_nat (j := 0) rfl, rfl, _, rfl, ?_⟩
              rcases hwd with rfl | rfl
              · rw [ne]
                refine iteF ?_
                refine iteF ⟨.ref m.m, rfl, .ref t, rfl, t, _, 0, .str "pay", rfl, rfl, .inl (.inl ((Same.refl H2) _ _ ht2)), atI_nat (j := 0) rfl, .ref t, rfl, t, _, 1, .str z, rfl, rfl, .inl (.inl ((Same.refl H2) _ _ ht2)), atI_nat (j := 1) rfl, m, D, zs, "pay", z, rfl, model_same hM2 (Same.refl H2), g, hz, (.inl rfl), fun H4 s4 => ⟨.ref t, rfl, t, _, 2, .int n, rfl, rfl, .inl (.inl (((Same.refl H2).trans s4) _ _ ht2)), atI_nat (j := 2) rfl, .int (mostW zs D "pay" z), rfl, _, _, rfl, rfl, _, rfl, ?_⟩⟩
                have mb : 0 ≤ mostW zs D "pay" z ∧ mostW zs D "pay" z ≤ 10 ^ 58 := most_bd g gb hz (.inl rfl)
                have sm : ShowOk (.int (mostW zs D "pay" z)) := (nice_int (big_of mb.1 (by omega))).show (by decide)
                by_cases hlt : mostW zs D "pay" z < n
                · rw [show decide (mostW zs D "pay" z < n) = true from decide_eq_true hlt]
                  refine iteT ⟨.ref t, rfl, t, _, 1, .str z, rfl, rfl, .inl (.inl (((Same.refl H2).trans s4) _ _ ht2)), atI_nat (j := 1) rfl, .str z, .str z, rfl, .str z, soz.sh, soz.tp, soz.dp, soz.ft, .int _, rfl, .int _, .int _, rfl, .int _, sm.sh, sm.tp, sm.dp, sm.ft, by show 3 ≤ sizeLine; decide, fun t' nt => fin (r := .much z (mostW zs D "pay" z)) (ws := ["much", PyData.shown (.str z), PyData.shown (.int (mostW zs D "pay" z))]) (s12.trans ((Same.refl H2).trans s4)) (fun G' b => ?_) (fun _ _ => .much soz sm) (asc3 (by decide +kernel) au (int_asc mb.1)) rfl t' nt⟩
                  have e : mostW zs D "pay" z = mostP (bkOf zs D) (zs.idxOf z) z := if_pos rfl
                  rw [e] at hlt ⊢
                  exact .pay (b _ _ tp ht) (.much (idx_get hz) n1 hlt)
                · rw [show decide (mostW zs D "pay" z < n) = false from decide_eq_false hlt]
                  obtain ⟨r, cd⟩ := (mostW_can g gb hz (.inl rfl) (by omega)).2 n n1 (by omega)
                  exact iteF ⟨by show 1 ≤ sizeLine; decide, fun t' nt => q t' ["done"] _ (((s12.trans ((Same.refl H2).trans s4))).trans (same_upd nt)) (.dn ((((Same.refl H2).trans s4).trans (same_upd nt)) _ _ ht2) tp cd) upd_same⟩
              · rw [decide_eq_true rfl]
                refine iteT ⟨.ref m.m, rfl, .ref t, rfl, t, _, 1, .str z, rfl, rfl, sq2, atI_nat (j := 1) rfl, m, D, zs, z, rfl, hM2, g, hz, fun v3 H3 s3 rv => ?_⟩
                cases hR : ringM zs (nxD zs D) z with
                | none =>
                  rw [hR] at rv
                  obtain rfl : v3 = .non := rv
                  refine ⟨rfl, _, rfl, ?_⟩
                  rw [decide_eq_true rfl]
                  exact iteT ⟨.ref t, rfl, t, _, 1, .str z, rfl, rfl, .inl (.inl (s3 _ _ ht2)), atI_nat (j := 1) rfl, .str z, .str z, rfl, .str z, soz.sh, soz.tp, soz.dp, soz.ft, by show 2 ≤ sizeLine; decide, fun t' nt => fin (r := .ring z) (ws := ["ring", PyData.shown (.str z)]) (s12.trans s3) (fun G' b => .clear (b _ _ tp ht) (.ring hz n1 hR)) (fun _ _ => .ring soz) (asc2 (by decide +kernel) au) rfl t' nt⟩
                | some R =>
                  rw [hR] at rv
                  obtain ⟨av, rfl, na, hav⟩ := rv
                  refine ⟨rfl, _, rfl, ?_⟩
                  rw [decide_eq_false (fun e => by cases e)]
                  refine iteF ⟨.ref m.m, rfl, .ref t, rfl, t, _, 0, .str "clear", rfl, rfl, .inl (.inl (s3 _ _ ht2)), atI_nat (j := 0) rfl, .ref t, rfl, t, _, 1, .str z, rfl, rfl, .inl (.inl (s3 _ _ ht2)), atI_nat (j := 1) rfl, m, D, zs, "clear", z, rfl, model_same hM2 s3, g, hz, (.inr rfl), fun H4 s4 => ⟨.ref t, rfl, t, _, 2, .int n, rfl, rfl, .inl (.inl ((s3.trans s4) _ _ ht2)), atI_nat (j := 2) rfl, .int (mostW zs D "clear" z), rfl, _, _, rfl, rfl, _, rfl, ?_⟩⟩
                  have mb : 0 ≤ mostW zs D "clear" z ∧ mostW zs D "clear" z ≤ 10 ^ 58 := most_bd g gb hz (.inr rfl)
                  have sm : ShowOk (.int (mostW zs D "clear" z)) := (nice_int (big_of mb.1 (by omega))).show (by decide)
                  by_cases hlt : mostW zs D "clear" z < n
                  · rw [show decide (mostW zs D "clear" z < n) = true from decide_eq_true hlt]
                    refine iteT ⟨.ref t, rfl, t, _, 1, .str z, rfl, rfl, .inl (.inl ((s3.trans s4) _ _ ht2)), atI_nat (j := 1) rfl, .str z, .str z, rfl, .str z, soz.sh, soz.tp, soz.dp, soz.ft, .int _, rfl, .int _, .int _, rfl, .int _, sm.sh, sm.tp, sm.dp, sm.ft, by show 3 ≤ sizeLine; decide, fun t' nt => fin (r := .much z (mostW zs D "clear" z)) (ws := ["much", PyData.shown (.str z), PyData.shown (.int (mostW zs D "clear" z))]) (s12.trans (s3.trans s4)) (fun G' b => ?_) (fun _ _ => .much soz sm) (asc3 (by decide +kernel) au (int_asc mb.1)) rfl t' nt⟩
                    have e : mostW zs D "clear" z = leastI (R.map (amtAt zs (duesM (bkOf zs D)))) := (if_neg clear_ne).trans (mostC_some hR)
                    rw [e] at hlt ⊢
                    exact .clear (b _ _ tp ht) (.much hz n1 hR hlt)
                  · rw [show decide (mostW zs D "clear" z < n) = false from decide_eq_false hlt]
                    obtain ⟨r, cd⟩ := (mostW_can g gb hz (.inr rfl) (by omega)).2 n n1 (by omega)
                    exact iteF ⟨by show 1 ≤ sizeLine; decide, fun t' nt => q t' ["done"] _ (((s12.trans (s3.trans s4))).trans (same_upd nt)) (.dn (((s3.trans s4).trans (same_upd nt)) _ _ ht2) tp cd) upd_same⟩
          · rw [decide_eq_false hz]
            exact iteT ⟨.ref t, rfl, t, _, 1, .str z, rfl, rfl, sq1, atI_nat (j := 1) rfl, .str z, .str z, rfl, .str z, su.sh, su.tp, su.dp, su.ft, such (decide_eq_false hz)⟩
      · rw [hin]
        refine iteT ⟨by show 1 ≤ sizeLine; decide, fun t' nt => fin s1 (fun G' b => .no ?_) (fun _ _ => .step) astep rfl t' nt⟩
        rcases hno with hno | ⟨wd, hwd, rfl⟩
        · exact .kind (.inl (.inl (b _ _ tp ht))) (.cons (hk G' b) (.cons (hu1 G' b) (.cons (ha G' b) .nil))) (hk G' b) hno
        · obtain rfl : k = .str wd := by
            have h := hk.dt
            cases h
            rfl
          exact .word (.inl (.inl (b _ _ tp ht))) (.cons (.str _) (.cons (hu1 G' b) (.cons (ha G' b) .nil))) hwd
end
end Rc

namespace Rc
open PySem PySem.Spec PyProof.Rows L2 RZ
/-! ### x in texts, x anything -/
def rInDt (K : PySem.W.Frag) : R2 := fun x y H Q => ∃ (p : Addr) (zs : List Str) (d : PyData), y = .ref p ∧ (SqL K H p (zs.map V.str) ∨ SqT K H p (zs.map V.str)) ∧ (∀ z ∈ zs, Asc z) ∧ Dt K H x d ∧ (d.canLay0 = true ∨ ∃ kv, d = .dict kv) ∧ Q (.bl (zs.any fun z => PyData.eqv (.str z) d)) H
theorem lay_strs : ∀ {zs : List Str}, (∀ z ∈ zs, Asc z) → PyData.canLayAll0 (zs.map PyData.str) = true ∧ PyData.depthAll (zs.map PyData.str) ≤ 1
  | [], _ => ⟨rfl, Nat.zero_le _⟩
  | z :: r, h => by
    obtain ⟨a, b⟩ := lay_strs (zs := r) fun t ht => h t (List.mem_cons_of_mem _ ht)
    refine ⟨by rw [List.map_cons, PyData.canLayAll0, a, PyData.canLay0, asc_ok (h z List.mem_cons_self)]; rfl, ?_⟩
    rw [List.map_cons]
    simp only [PyData.depthAll]
    have : (PyData.str z).depth ≤ 0 := by simp only [PyData.depth]; omega
    omega
open PySem.Builtin in
theorem str_declines_dict (b : Str) (u : Tok) (l : Addr) (c : Value) (es : Array DictEntry) (ep : Nat) (dd : Option Addr) (sl : Array (Option Value)) :
    Meets (Builtin.«str.__eq__» ⟨[.str b u, .ref l], []⟩) (fun _ R s => s.heap.get? l = some { cls := c, dict := dd, data := .dict es ep, slots := sl } ∧ R (.ok (.ret .notImplemented)) s) :=
  .of_wp fun prog w A R s h => by obtain ⟨hp, g, d, tk, os⟩ := s; obtain ⟨hl, h⟩ := h; wp_walk using wpAny_loadPart' hl, wpAny_load hl; exact ⟨_, rfl, h⟩
theorem dict_declines_str (l : Addr) (es : Array DictEntry) (ep : Nat) (dd : Option Addr) (sl : Array (Option Value)) (b : Str) (u : Tok) :
    Meets (Builtin.«dict.__eq__» ⟨[.ref l, .str b u], []⟩) (fun _ R s => s.heap.get? l = some { cls := .type "dict", dict := dd, data := .dict es ep, slots := sl } ∧ R (.ok (.ret .notImplemented)) s) :=
  .of_wp fun prog w A R s h => by obtain ⟨hp, g, d, tk, os⟩ := s; obtain ⟨hl, h⟩ := h; have f1 := PySem.F.sub_str_dict; wp_walk using wpAny_loadPart' hl, wpAny_load hl; exact ⟨_, rfl, h⟩
section
variable {A : Around} {s : Shared}
theorem rc_str_dict {l : Addr} {o : Obj} {es : Array DictEntry} {ep : Nat} (b : Str) (u : Tok) (ho : s.heap.get? l = some o) (hc : o.cls = .type "dict") (hd : o.data = .dict es ep) (hu : A.units < cLine) : SeqAt.RcAt A s (.str b u) (.ref l) false := fun prog w E Q h => by
  obtain ⟨cls, dd, data, sl⟩ := o
  simp only at hc hd
  subst hc hd
  exact SeqAt.rc_eq_decline_or (k := false) (typeIs_str s b u) ⟨_, ho, rfl⟩ (by decide) PySem.F.sub_dict_str PySem.F.slot_str_eq PySem.F.slot_dict_eq_refl
    (fun _ hq => call_meets PySem.F.slot_str_eq (typeIs_str s b u) PySem.F.entry_str_eq (PySem.F.args_str_eq_2 _ _) (str_declines_dict b u l (.type "dict") es ep dd sl) ⟨ho, hq⟩)
    (fun _ hq => call_meets PySem.F.slot_dict_eq_refl ⟨_, ho, rfl⟩ PySem.F.entry_dict_eq (PySem.F.args_dict_eq_2 _ _) (dict_declines_str l es ep dd sl b u) ⟨ho, hq⟩)
    (fun _ hq => wpAny_of_eq (rfl : isSame (.str b u) (.ref l) = pure false) hq) (.inr hu) h
theorem eq_str_dict {l : Addr} {o : Obj} {es : Array DictEntry} {ep : Nat} (b : Str) (u : Tok) (ho : s.heap.get? l = some o) (hc : o.cls = .type "dict") (hd : o.data = .dict es ep) (hu : A.units < cLine) : SeqAt.EqAt A s (.str b u) (.ref l) false := fun prog w E Q h => by
  unfold eqBool
  refine wpAny_holding ?_
  refine wpAny_ite_split (fun hab => absurd (eq_of_beq hab) nofun) (fun _ => ?_)
  exact wpAny_bind (rc_str_dict b u ho hc hd hu prog w E _ (wpAny_truthy_bool h))
end
theorem reads_strs {h : Heap} : ∀ {zs : List Str} {vs : List Value} {as : List Addr}, ReadsAll h vs (zs.map PyData.str) as → ∀ y ∈ vs, ∃ z t, y = Value.str z t
  | [], _, _, r, y, hy => by cases r; cases hy
  | z :: zs, _, _, r, y, hy => by
    cases r with
    | cons r1 r2 =>
      rcases List.mem_cons.mp hy with rfl | hy
      · cases r1
        exact ⟨_, _, rfl⟩
      · exact reads_strs r2 y hy
theorem op_inDt {X : Cx} {K : PySem.W.Frag} (eK : X.K = K) (hu : X.A.units + 65 < cLine) : OpR X (compareOp .In) (rInDt K) := by
  subst eK
  intro pins s σ H x y v u Q I rx ry h
  obtain ⟨p, zs, d, rfl, hq, asc, hd, cl, q⟩ := h
  obtain ⟨as, r1, _⟩ := Dt.reads I d x v hd rx
  obtain ⟨l1, l2⟩ := lay_strs asc
  have hroom : X.A.units + 1 + min (PyData.depthAll (zs.map PyData.str)) d.depth < cLine := by
    have := Nat.min_le_left (PyData.depthAll (zs.map PyData.str)) d.depth
    omega
  have e : ((zs.map PyData.str).any fun z => PyData.eqv z d) = zs.any fun z => PyData.eqv (.str z) d := by
    rw [List.any_map]
    rfl
  have rd : (∃ bs, Reads s.heap u (.list (zs.map PyData.str)) bs) ∨ (∃ bs, Reads s.heap u (.tuple (zs.map PyData.str)) bs) := by
    rcases hq with hq | hq
    · exact .inl (Dp.reads I (.list (zs.map PyData.str)) (.ref p) u (.lst hq (DpAll.strs zs)) ry)
    · exact .inr (Dp.reads I (.tuple (zs.map PyData.str)) (.ref p) u (.tup hq (DpAll.strs zs)) ry)
  rcases cl with cl | ⟨kv, rfl⟩
  · rcases rd with ⟨bs, r2⟩ | ⟨bs, r2⟩
    · exact SeqAt.in_list_reads r2 r1 l1 cl hroom (by rw [e]; exact ⟨.bl _, H, I, rfl, q⟩)
    · exact SeqAt.in_tuple_reads r2 r1 l1 cl hroom (by rw [e]; exact ⟨.bl _, H, I, rfl, q⟩)
  · have no : (zs.any fun z => PyData.eqv (.str z) (.dict kv)) = false := by
      rw [List.any_eq_false]
      intro z _
      simp [PyData.eqv]
    rw [no] at q
    have go : ∀ {vs : Array Value} {as : List Addr}, ReadsAll s.heap vs.toList (zs.map PyData.str) as → ∀ y, y ∈ vs → SeqAt.EqAt X.A.in1 s y v false := fun {vs as} rs y hy => by
      obtain ⟨z, t, rfl⟩ := reads_strs rs y (by simpa using hy)
      cases r1 with
      | dict k1 k2 k3 => exact eq_str_dict z t k1 k2 k3 (by show X.A.units + 1 < cLine; omega)
    have anyF : ∀ vs : Array Value, (vs.any fun _ => false) = false := fun vs => by simp
    rcases rd with ⟨bs, r2⟩ | ⟨bs, r2⟩
    · cases r2 with
      | list h1 h2 h3 h4 => exact SeqAt.in_listAt (fun _ => false) ⟨_, h1, h2, _, h3⟩ (go h4) (by rw [anyF]; exact ⟨.bl _, H, I, rfl, q⟩)
    · cases r2 with
      | tuple h1 h2 h3 h4 => exact SeqAt.in_tupleAt (fun _ => false) ⟨_, h1, h2, _, h3⟩ (go h4) (by rw [anyF]; exact ⟨.bl _, H, I, rfl, q⟩)
theorem any_strs {zs : List Str} {d : PyData} : (zs.any fun z => PyData.eqv (.str z) d) = match d with | .str y => decide (y ∈ zs) | _ => false := by
  cases d with
  | str y =>
    show (zs.any fun z => PyData.eqv (.str z) (.str y)) = decide (y ∈ zs)
    rw [Bool.eq_iff_iff, List.any_eq_true, decide_eq_true_eq]
    constructor
    · rintro ⟨z, hz, e⟩
      have : z = y := by simpa [PyData.eqv] using e
      rw [← this]
      exact hz
    · exact fun h => ⟨y, h, by simp [PyData.eqv]⟩
  | _ =>
    show (zs.any fun z => PyData.eqv (.str z) _) = false
    rw [List.any_eq_false]
    intro z _
    simp [PyData.eqv]
theorem any_true {zs : List Str} {d : PyData} (h : (zs.any fun z => PyData.eqv (.str z) d) = true) : ∃ y, d = .str y ∧ y ∈ zs := by
  rw [any_strs] at h
  cases d with
  | str y => exact ⟨y, rfl, of_decide_eq_true h⟩
  | _ => cases h
/-! ### texts in capitals -/
theorem upper_sign {z : Str} : ∀ c ∈ (Txt.upper z).cps.toList, ∃ d ∈ z.cps.toList, c ∈ Unicode.upperOf d := fun c hc => by
  have hc : c ∈ ((z.cps.mapIdx fun i c => (Unicode.upperOf c).toArray).flatten).toList := hc
  rw [Array.mem_toList_iff, Array.mem_flatten] at hc
  obtain ⟨l, hl, h⟩ := hc
  rw [Array.mem_mapIdx] at hl
  obtain ⟨i, hi, rfl⟩ := hl
  exact ⟨z.cps[i], by rw [Array.mem_toList_iff]; exact Array.getElem_mem hi, by simpa using h⟩
theorem upper_abc : ∀ d ∈ abc, ∀ c ∈ Unicode.upperOf d, c < 128 := by decide +kernel
theorem upper_asc {z : Str} (h : nameT z = true) : Asc (Txt.upper z) := fun c hc => by
  obtain ⟨d, hd, e⟩ := upper_sign c hc
  exact upper_abc d (name_signs h d hd) c e
/-- a person of a step -/
structure Who43 (K : PySem.W.Frag) (p : Addr) (H : Hp) (v : V) (d : PyData) : Prop where
  db : DB K p H v d
  so : ShowOk d
  sd : ShortD d
  as : Asc d.shown
  cl : d.canLay0 = true ∨ ∃ kv, d = .dict kv
theorem Who43.step {K : PySem.W.Frag} {p : Addr} {H H' : Hp} {v : V} {d : PyData} (h : Who43 K p H v d) (b : But p H H') : Who43 K p H' v d := ⟨h.db.step b, h.so, h.sd, h.as, h.cl⟩
theorem who_name {K : PySem.W.Frag} {p : Addr} {H : Hp} {z : Str} (h : nameT z = true) : Who43 K p H (.str z) (.str z) := ⟨fun _ _ => .str z, (nice_name h).show (by decide), (fun y e => by cases e; have := (nameT_len h).2; omega), str_asc (name_asc h), .inl (by rw [PyData.canLay0]; exact asc_ok (name_asc h))⟩
section
variable {P : Program} {w : World} {K : PySem.W.Frag} {mg : Str → Option Value} {base : Heap}
/-! ### _law_spoilt -/
abbrev sLSo : Stmt := topS 71
abbrev nLSo : List Str := ["_law_pot_here", "_law_model_here", "_law_kind", "_law_who", "_law_some", "_law_amount_here", "_law_more", "_law_step"]
theorem scLSo : FnScope nLSo ["_law_pot_here", "_law_model_here"] (defScope sLSo) := ⟨rfl, rfl, rfl, by decide +kernel, rfl, by decide +kernel, by decide +kernel⟩
def spLSo (K : PySem.W.Frag) : Sp := fun vs H Q _ => ∃ (p : Addr) (m : MdA) (D : Md) (zs : List Str), vs = [.ref p, .ref m.m] ∧ Pot H p ∧ ModelAt K H zs m D ∧ Gs zs D ∧ Gb D ∧ ¬ m.Has p ∧ ∀ v H', Pot H' p → But p H H' → Sp43 K p H' v → Q v H'
set_option maxHeartbeats 4000000 in
theorem ok_lso {f fT fA f1 : Addr} {fd fdT fdA fd1 : FuncData} (F : Fun K "_law_spoilt" "_law_spoilt" sLSo f fd) (B : Blt mg) (B2 : Blt2 mg) (B3 : Blt3 mg) (TK : HasTake P w K mg base fT fdT) (AM : HasAmong P w K mg base fA fdA) (MO : Has P w K mg base 6 "_law_most" ["_law_model_here", "_law_step", "_law_who"] (spLMo K) f1 fd1) : FnOk P w K mg base CX0 7 f fd ["_law_pot_here", "_law_model_here"] (spLSo K) := by
  refine F.ok scLSo (fun vs H Q E h => ?_) (fun cdv Ar outer s H vs Q E0 hr h => ?_)
  · obtain ⟨_, _, _, _, rfl, _⟩ := h
    rfl
  · obtain ⟨p, m, D, zs, rfl, hp, hM, g, gb, np, q⟩ := h
    have hu := hu_of hr
    have hu65 : (Ar.deeper (envOfC "_law_spoilt" (defScope sLSo) s.heap.objs.size f cdv)).units + 65 < cLine := by have := hr.un; omega
    have hr1 := hr.mono (show 1 ≤ 6 by decide)
    have hr2 := hr.mono (show 2 ≤ 6 by decide)
    refine ⟨_, (pss_cons (ps_set (i := 2) scLSo.nd rfl (.inl rfl) (pe_ix ix_list (pe_lst (pa_cons pe_str (pa_cons pe_str (pa_cons pe_str (pa_cons pe_str (pa_cons pe_str (pa_cons pe_str (pa_cons pe_non (pa_cons (pe_lst (pa_cons pe_str pa_nil)) (pa_cons pe_int (pa_cons (pe_tup (pa_cons pe_str pa_nil)) pa_nil))))))))))) (pe_call TK.ok hr1 (by rfl) TK.g TK.kp TK.b .nil pass0 (pa_cons (pv 0) (pa_cons pe_int pa_nil))) (fun _ _ => rfl))) (pss_cons (ps_set (i := 3) scLSo.nd rfl (.inl rfl) (pe_call AM.ok hr2 (by rfl) AM.g AM.kp AM.b .nil pass0 (pa_cons (pv 0) (pa_cons (pe_dget hu (pv 1) pe_str (fun _ _ => rfl)) pa_nil)))) (C8.pss_cut (ps_if (pt_cmpR op_eq (pe_call TK.ok hr1 (by rfl) TK.g TK.kp TK.b .nil pass0 (pa_cons (pv 0) (pa_cons pe_int pa_nil))) pe_int (nomark _)) (pss_one (ps_set (i := 3) scLSo.nd rfl (.inl rfl) (pe_ix ix_list (pe_lst (pa_cons pe_str (pa_cons (pe_upper (pv 3)) (pa_cons (pe_op op_add_str (pv 3) pe_str) (pa_cons pe_non (pa_cons pe_int (pa_cons pe_bl (pa_cons (pe_tup (pa_cons (pv 3) pa_nil)) (pa_cons (pe_lst (pa_cons (pv 3) pa_nil)) (pa_cons pe_dnewK pa_nil)))))))))) (pe_call TK.ok hr1 (by rfl) TK.g TK.kp TK.b .nil pass0 (pa_cons (pv 0) (pa_cons pe_int pa_nil))) (fun _ _ => rfl)))) pss_nil) (pss_cons (ps_set (i := 4) scLSo.nd rfl (.inl rfl) (pe_lst (pa_cons pe_int (pa_cons (pe_un un_neg pe_int) (pa_cons pe_bl (pa_cons pe_non (pa_cons pe_str (pa_cons (pe_lst (pa_cons pe_int pa_nil)) (pa_cons (pe_tup (pa_cons pe_int pa_nil)) pa_nil))))))))) (pss_cons (ps_set (i := 5) scLSo.nd rfl (.inl rfl) (pe_ix ix_list (pe_op op_cat (pv 4) (pe_lst (pa_cons pe_int (pa_cons (pe_op op_add pe_int (pe_call TK.ok hr1 (by rfl) TK.g TK.kp TK.b .nil pass0 (pa_cons (pv 0) (pa_cons (pe_op op_pow pe_int pe_int) pa_nil)))) pa_nil)))) (pe_call TK.ok hr1 (by rfl) TK.g TK.kp TK.b .nil pass0 (pa_cons (pv 0) (pa_cons pe_int pa_nil))) (fun _ _ => rfl))) (C8.pss_cut (ps_if (PW.pt (pw_and (pt_cmpR op_eq (pe_call TK.ok hr1 (by rfl) TK.g TK.kp TK.b .nil pass0 (pa_cons (pv 0) (pa_cons pe_int pa_nil))) pe_int (nomark _)) (pw_and (pt_cmpR (op_inDt (K := K) rfl hu65) (pv 2) (pe_tup (pa_cons pe_str (pa_cons pe_str pa_nil))) (by rfl)) (pw_and1 (pt_cmpR (op_inDt (K := K) rfl hu65) (pv 3) (pe_dget hu (pv 1) pe_str (fun _ _ => rfl)) (by rfl)))))) (pss_cons (ps_set (i := 6) scLSo.nd rfl (.inl rfl) (pe_ix ix_list (pe_lst (pa_cons pe_int (pa_cons pe_int (pa_cons (pe_op op_add pe_int (pe_call TK.ok hr1 (by rfl) TK.g TK.kp TK.b .nil pass0 (pa_cons (pv 0) (pa_cons pe_int pa_nil)))) pa_nil)))) (pe_call TK.ok hr1 (by rfl) TK.g TK.kp TK.b .nil pass0 (pa_cons (pv 0) (pa_cons pe_int pa_nil))) (fun _ _ => rfl))) (pss_one (ps_set (i := 5) scLSo.nd rfl (.inl rfl) (pe_callB (call_max2 rfl) (by rfl) B2.max (by decide +kernel) (pa_cons pe_int (pa_cons (pe_op op_add (pe_call MO.ok hr (by rfl) MO.g MO.kp MO.b .nil pass0 (pa_cons (pv 1) (pa_cons (pv 2) (pa_cons (pv 3) pa_nil)))) (pv 6)) pa_nil)))))) pss_nil) (pss_cons (ps_set (i := 7) scLSo.nd rfl (.inl rfl) (pe_tup (pa_cons (pv 2) (pa_cons (pv 3) (pa_cons (pv 5) pa_nil))))) (pss_one (ps_ret (pe_ix ix_list (pe_lst (pa_cons (pv 7) (pa_cons (pv 7) (pa_cons (pv 7) (pa_cons (pv 7) (pa_cons (pe_slice sl_tup (pv 7) po_none (po_some pe_int)) (pa_cons (pe_op op_catT (pv 7) (pe_tup (pa_cons pe_int pa_nil))) (pa_cons (pe_callTy (call_listS rfl) (by rfl) B3.list (by decide +kernel) (pa_cons (pv 7) pa_nil)) (pa_cons pe_str pa_nil))))))))) (pe_call TK.ok hr1 (by rfl) TK.g TK.kp TK.b .nil pass0 (pa_cons (pv 0) (pa_cons pe_int pa_nil))) (fun _ _ => rfl))))))))))), ?_⟩
    have nz := g.nz
    have lop : m.lo ≠ p := fun e => np (e ▸ .inr (.inl rfl))
    -- the kinds
    refine ⟨by show 1 ≤ sizeLine; decide, fun a1 na1 => ?_⟩
    have s1 := same_upd (o := .lst [V.str "pay"]) na1
    have h1 : upd H a1 (.lst [V.str "pay"]) a1 = some (.lst [V.str "pay"]) := upd_same
    have p1 := hp.same s1
    generalize upd H a1 (.lst [V.str "pay"]) = H1 at s1 h1 p1
    refine ⟨by show 1 ≤ sizeLine; decide, fun a2 na2 => ?_⟩
    have s2 := same_upd (o := .tup [V.str "pay"]) na2
    have h2 : upd H1 a2 (.tup [V.str "pay"]) a2 = some (.tup [V.str "pay"]) := upd_same
    have p2 := p1.same s2
    generalize upd H1 a2 (.tup [V.str "pay"]) = H2 at s2 h2 p2
    refine ⟨by show 10 ≤ sizeLine; decide, fun L nL => ?_⟩
    generalize eX : ([V.str "pay", .str "clear", .str "pay", .str "clear", .str "Pay", .str "give", .non, .ref a1, .int 5, .ref a2] : List V) = XS
    have s3 := same_upd (o := .lst XS) nL
    have h3 : upd H2 L (.lst XS) L = some (.lst XS) := upd_same
    have p3 := p2.same s3
    have Lp := p2.ne nL
    generalize upd H2 L (.lst XS) = H3 at s3 h3 p3
    have lX : XS.length = 10 := by rw [← eX]; rfl
    refine ⟨.ref p, rfl, p, 10, rfl, p3, litM _ (by decide) (by decide), fun u H4 u0 u1 p4 b4 => ?_⟩
    obtain ⟨k, ek, mk⟩ := pick (xs := XS) u0 (by rw [lX]; exact u1)
    refine ⟨L, _, _, k, rfl, rfl, .inl (.inl (b4 _ _ Lp h3)), ek, ?_⟩
    have s13 := s1.trans (s2.trans s3)
    have b04 : But p H H4 := (same_but s13).trans b4
    have g1 := b4 _ _ (hp.ne na1) (s3 _ _ (s2 _ _ h1))
    have g2 := b4 _ _ (p1.ne na2) (s3 _ _ h2)
    have n1 := hp.ne na1
    have n2 := p1.ne na2
    have keyK : ∃ dk, DB K p H4 k dk ∧ Kd43 dk ∧ dk.canLay0 = true := by
      rw [← eX] at mk
      simp only [List.mem_cons, List.not_mem_nil, or_false] at mk
      rcases mk with rfl | rfl | rfl | rfl | rfl | rfl | rfl | rfl | rfl | rfl
      · exact ⟨.str "pay", fun _ _ => .str _, .pay, by decide +kernel⟩
      · exact ⟨.str "clear", fun _ _ => .str _, .clear, by decide +kernel⟩
      · exact ⟨.str "pay", fun _ _ => .str _, .pay, by decide +kernel⟩
      · exact ⟨.str "clear", fun _ _ => .str _, .clear, by decide +kernel⟩
      · exact ⟨.str "Pay", fun _ _ => .str _, .cap, by decide +kernel⟩
      · exact ⟨.str "give", fun _ _ => .str _, .give, by decide +kernel⟩
      · exact ⟨.none, fun _ _ => .non, .non, by decide +kernel⟩
      · exact ⟨.list [.str "pay"], fun G k => .lst (.inl (.inl (k _ _ n1 g1))) (.cons (.str _) .nil), .lst, by decide +kernel⟩
      · exact ⟨.int 5, fun _ _ => .int _, .int, by decide +kernel⟩
      · exact ⟨.tuple [.str "pay"], fun G k => .tup (.inl (.inl (k _ _ n2 g2))) (.cons (.str _) .nil), .tup, by decide +kernel⟩
    obtain ⟨dk, dbk, kdk, clk⟩ := keyK
    clear eX mk ek
    -- the person
    have hM4 := model_but hM b04 hp np
    refine ⟨.ref p, rfl, .ref m.m, rfl, m.m, .ref m.lo, rfl, hM4.g0, p, _, rfl, p4, .inr ⟨m.lo, _, rfl, lop, hM4.ho, by rw [List.length_map]; exact nz.n0, by rw [List.length_map]; have := nz.n1; omega, fun w5 H5 hw5 p5 b5 => ?_⟩⟩
    obtain ⟨z, hz, rfl⟩ := List.mem_map.mp hw5
    have nmz := nz.nm z hz
    have lz := (nameT_len nmz).2
    have b05 := b04.trans b5
    refine ⟨fun σ H' => ∃ v dv, σ = [some (.ref p), some (.ref m.m), some k, some v, none, none, none, none] ∧ Pot H' p ∧ But p H H' ∧ But p H4 H' ∧ Who43 K p H' v dv, ?_, fun σ H6 hR => ?_⟩
    · refine ⟨.ref p, rfl, p, 4, rfl, p5, litM _ (by decide) (by decide), fun u6 H6 u60 u61 p6 b6 => ⟨rfl, _, rfl, ?_⟩⟩
      have b06 := b05.trans b6
      by_cases hu6 : u6 = 0
      · rw [show decide (V.int u6 = V.int 0) = true from decide_eq_true (by rw [hu6])]
        have l1 : (" " : Str).length = 1 := by decide +kernel
        have al : z.length + (" " : Str).length ≤ sizeLine := small_line (by rw [l1]; omega)
        refine iteT ⟨.str z, rfl, ⟨z, rfl⟩, z, rfl, rfl, by omega, .str z, rfl, z, " ", rfl, rfl, al, .str z, rfl, by show 1 ≤ sizeLine; decide, fun t nt => ?_⟩
        have st := same_upd (o := .tup [V.str z]) nt
        have ht : upd H6 t (.tup [V.str z]) t = some (.tup [V.str z]) := upd_same
        have pt := p6.same st
        have tp := p6.ne nt
        generalize upd H6 t (.tup [V.str z]) = H7 at st ht pt
        refine ⟨.str z, rfl, by show 1 ≤ sizeLine; decide, fun l nl => ?_⟩
        have sl := same_upd (o := .lst [V.str z]) nl
        have hl : upd H7 l (.lst [V.str z]) l = some (.lst [V.str z]) := upd_same
        have pl := pt.same sl
        have lp := pt.ne nl
        generalize upd H7 l (.lst [V.str z]) = H8 at sl hl pl
        refine fun d nd => ?_
        have sd := same_upd (o := .dK []) nd
        have hd : upd H8 d (.dK []) d = some (.dK []) := upd_same
        have pd := pl.same sd
        have dp := pl.ne nd
        generalize upd H8 d (.dK []) = H9 at sd hd pd
        refine ⟨by show 9 ≤ sizeLine; decide, fun L2 nL2 => ?_⟩
        generalize eY : ([V.str "", .str (Txt.upper z), .str (z ++ " "), .non, .int 0, .bl true, .ref t, .ref l, .ref d] : List V) = YS
        have sL := same_upd (o := .lst YS) nL2
        have hL : upd H9 L2 (.lst YS) L2 = some (.lst YS) := upd_same
        have pL := pd.same sL
        have L2p := pd.ne nL2
        generalize upd H9 L2 (.lst YS) = H10 at sL hL pL
        have lY : YS.length = 9 := by rw [← eY]; rfl
        refine ⟨.ref p, rfl, p, 9, rfl, pL, litM _ (by decide) (by decide), fun w H11 w0 w1 p11 b11 => ?_⟩
        obtain ⟨x, ex, mx⟩ := pick (xs := YS) w0 (by rw [lY]; exact w1)
        refine ⟨L2, _, _, x, rfl, rfl, .inl (.inl (b11 _ _ L2p hL)), ex, ?_⟩
        have s610 := st.trans (sl.trans (sd.trans sL))
        have b611 : But p H6 H11 := (same_but s610).trans b11
        have gt := b11 _ _ tp (sL _ _ (sd _ _ (sl _ _ ht)))
        have gl := b11 _ _ lp (sL _ _ (sd _ _ hl))
        have gd := b11 _ _ dp (sL _ _ hd)
        have key : ∃ dx, Who43 K p H11 x dx := by
          rw [← eY] at mx
          simp only [List.mem_cons, List.not_mem_nil, or_false] at mx
          rcases mx with rfl | rfl | rfl | rfl | rfl | rfl | rfl | rfl | rfl
          · exact ⟨.str "", fun _ _ => .str _, ⟨by decide +kernel, .inl (by decide +kernel), by decide +kernel, .inr (by decide +kernel)⟩, (fun y e => by cases e; decide), by decide +kernel, .inl (by decide +kernel)⟩
          · have au := upper_asc nmz
            have lu : (Txt.upper z).length ≤ 3 * z.length := PyProof.Rows.len_upper z
            exact ⟨.str (Txt.upper z), fun _ _ => .str _, (nice_text (n := 24) au (by omega)).show (by decide), (fun y e => by cases e; omega), str_asc au, .inl (by rw [PyData.canLay0]; exact asc_ok au)⟩
          · have au : Asc (z ++ " ") := (name_asc nmz).app (by decide +kernel)
            have lu : (z ++ (" " : Str)).length = z.length + 1 := by
              show (z.cps ++ (" " : Str).cps).size = _
              rw [Array.size_append]
              rfl
            exact ⟨.str (z ++ " "), fun _ _ => .str _, (nice_text (n := 24) au (by omega)).show (by decide), (fun y e => by cases e; omega), str_asc au, .inl (by rw [PyData.canLay0]; exact asc_ok au)⟩
          · exact ⟨.none, fun _ _ => .non, ⟨by decide +kernel, .inl (by decide +kernel), by decide +kernel, .inr (by decide +kernel)⟩, (fun y e => by cases e), by decide +kernel, .inl (by decide +kernel)⟩
          · exact ⟨.int 0, fun _ _ => .int _, ⟨by decide +kernel, .inl (by decide +kernel), by decide +kernel, .inr (by decide +kernel)⟩, (fun y e => by cases e), by decide +kernel, .inl (by decide +kernel)⟩
          · exact ⟨.bool true, fun _ _ => .bl _, ⟨by decide +kernel, .inl (by decide +kernel), by decide +kernel, .inr (by decide +kernel)⟩, (fun y e => by cases e), by decide +kernel, .inl (by decide +kernel)⟩
          · exact ⟨.tuple [.str z], fun G k => .tup (.inl (.inl (k _ _ tp gt))) (.cons (.str _) .nil), ((NiceA.cons (nice_name nmz) (by simp only [PyData.depth]; omega) NiceA.nil).tuple).show (by decide), (fun y e => by cases e), one_asc nmz, .inl (by rw [PyData.canLay0, PyData.canLayAll0, PyData.canLay0, asc_ok (name_asc nmz)]; rfl)⟩
          · exact ⟨.list [.str z], fun G k => .lst (.inl (.inl (k _ _ lp gl))) (.cons (.str _) .nil), ((NiceA.cons (nice_name nmz) (by simp only [PyData.depth]; omega) NiceA.nil).list).show (by decide), (fun y e => by cases e), names_asc (zs := [z]) (fun y hy => by rw [List.mem_singleton.mp hy]; exact nmz), .inl (by rw [PyData.canLay0, PyData.canLayAll0, PyData.canLay0, asc_ok (name_asc nmz)]; rfl)⟩
          · exact ⟨.dict [], fun G k => .dct (kvs := []) (k _ _ dp gd) .nil .nil, ⟨by decide +kernel, .inr ⟨_, rfl⟩, by decide +kernel, .inr (by decide +kernel)⟩, (fun y e => by cases e), by decide +kernel, .inr ⟨_, rfl⟩⟩
        obtain ⟨dx, wx⟩ := key
        exact ⟨x, dx, rfl, p11, b06.trans b611, (b5.trans b6).trans b611, wx⟩
      · rw [show decide (V.int u6 = V.int 0) = false from decide_eq_false fun c => hu6 (V.int.inj c)]
        exact iteF ⟨.str z, _, rfl, p6, b06, b5.trans b6, who_name nmz⟩
    obtain ⟨v, dv, rfl, p6, b06, b46, wv⟩ := hR
    have dbk6 := dbk.step b46
    clear h3 g1 g2
    -- the amounts
    refine ⟨_, rfl, by show 1 ≤ sizeLine; decide, fun l1 nl1 => ?_⟩
    have t1 := same_upd (o := .lst [V.int 1]) nl1
    have k1 : upd H6 l1 (.lst [V.int 1]) l1 = some (.lst [V.int 1]) := upd_same
    have q1 := p6.same t1
    have l1p := p6.ne nl1
    generalize upd H6 l1 (.lst [V.int 1]) = H7 at t1 k1 q1
    refine ⟨by show 1 ≤ sizeLine; decide, fun l2 nl2 => ?_⟩
    have t2 := same_upd (o := .tup [V.int 1]) nl2
    have k2 : upd H7 l2 (.tup [V.int 1]) l2 = some (.tup [V.int 1]) := upd_same
    have q2 := q1.same t2
    have l2p := q1.ne nl2
    generalize upd H7 l2 (.tup [V.int 1]) = H8 at t2 k2 q2
    refine ⟨by show 7 ≤ sizeLine; decide, fun S1 nS1 => ?_⟩
    generalize eX : ([V.int 0, .int (-1), .bl true, .non, .str "1", .ref l1, .ref l2] : List V) = AS
    have t3 := same_upd (o := .lst AS) nS1
    have k3 : upd H8 S1 (.lst AS) S1 = some (.lst AS) := upd_same
    have q3 := q2.same t3
    have S1p := q2.ne nS1
    generalize upd H8 S1 (.lst AS) = H9 at t3 k3 q3
    have lA : AS.length = 7 := by rw [← eX]; rfl
    refine ⟨.ref S1, rfl, .ref p, rfl, 10, 59, rfl, rfl, ⟨by decide, by decide, by decide⟩, p, _, rfl, q3, litM _ (by decide) (by decide), fun x9 Ha x90 x91 qa ba => ⟨1, x9, rfl, rfl, by show 2 ≤ sizeLine; decide, fun F0 nF0 => ?_⟩⟩
    have t4 := same_upd (o := .lst [V.int 1, V.int (1 + x9)]) nF0
    have k4 : upd Ha F0 (.lst [V.int 1, V.int (1 + x9)]) F0 = some (.lst [V.int 1, V.int (1 + x9)]) := upd_same
    have q4 := qa.same t4
    generalize upd Ha F0 (.lst [V.int 1, V.int (1 + x9)]) = Hb at t4 k4 q4
    refine ⟨S1, F0, _, _, rfl, rfl, t4 _ _ (ba _ _ S1p k3), k4, by rw [lA]; exact small_line (by show 7 + 2 ≤ 1000; decide), fun S2 nS2 => ?_⟩
    have t5 := same_upd (o := .lst (AS ++ [V.int 1, V.int (1 + x9)])) nS2
    have k5 : upd Hb S2 (.lst (AS ++ [V.int 1, V.int (1 + x9)])) S2 = some (.lst (AS ++ [V.int 1, V.int (1 + x9)])) := upd_same
    have q5 := q4.same t5
    have S2p := q4.ne nS2
    generalize upd Hb S2 (.lst (AS ++ [V.int 1, V.int (1 + x9)])) = Hc at t5 k5 q5
    have lAA : (AS ++ [V.int 1, V.int (1 + x9)]).length = 9 := by rw [List.length_append, lA]; rfl
    refine ⟨.ref p, rfl, p, 9, rfl, q5, litM _ (by decide) (by decide), fun y Hd y0 y1 qd bd => ?_⟩
    obtain ⟨a, ea, ma⟩ := pick (xs := AS ++ [V.int 1, V.int (1 + x9)]) y0 (by rw [lAA]; exact y1)
    refine ⟨S2, _, _, a, rfl, rfl, .inl (.inl (bd _ _ S2p k5)), ea, ?_⟩
    have b69 : But p H6 H9 := same_but (t1.trans (t2.trans t3))
    have b9d : But p H9 Hd := ba.trans ((same_but (t4.trans t5)).trans bd)
    have b6d := b69.trans b9d
    have b0d := b06.trans b6d
    have gl1 := b9d _ _ l1p (t3 _ _ (t2 _ _ k1))
    have gl2 := b9d _ _ l2p (t3 _ _ k2)
    have keyA : ∃ da, DB K p Hd a da ∧ ShortD da := by
      rcases List.mem_append.mp ma with ma | ma
      · rw [← eX] at ma
        simp only [List.mem_cons, List.not_mem_nil, or_false] at ma
        rcases ma with rfl | rfl | rfl | rfl | rfl | rfl | rfl
        · exact ⟨.int 0, fun _ _ => .int _, fun y e => by cases e⟩
        · exact ⟨.int (-1), fun _ _ => .int _, fun y e => by cases e⟩
        · exact ⟨.bool true, fun _ _ => .bl _, fun y e => by cases e⟩
        · exact ⟨.none, fun _ _ => .non, fun y e => by cases e⟩
        · exact ⟨.str "1", fun _ _ => .str _, fun y e => by cases e; decide⟩
        · exact ⟨.list [.int 1], fun G k => .lst (.inl (.inl (k _ _ l1p gl1))) (.cons (.int _) .nil), fun y e => by cases e⟩
        · exact ⟨.tuple [.int 1], fun G k => .tup (.inl (.inl (k _ _ l2p gl2))) (.cons (.int _) .nil), fun y e => by cases e⟩
      · simp only [List.mem_cons, List.not_mem_nil, or_false] at ma
        rcases ma with rfl | rfl
        · exact ⟨.int 1, fun _ _ => .int _, fun y e => by cases e⟩
        · exact ⟨.int (1 + x9), fun _ _ => .int _, fun y e => by cases e⟩
    obtain ⟨da, dba, sda⟩ := keyA
    have dbk' := dbk6.step b6d
    have wv' := wv.step b6d
    have hMd := model_but hM b0d hp np
    clear eX ma ea k5 k4 k3 k2 k1 gl1 gl2
    -- the most, and more
    refine ⟨fun σ H' => ∃ a' da' y6, σ = [some (.ref p), some (.ref m.m), some k, some v, some (.ref S1), some a', y6, none] ∧ Pot H' p ∧ But p H H' ∧ But p Hd H' ∧ DB K p H' a' da' ∧ ShortD da', ?_, fun σ He hR => ?_⟩
    · refine ⟨.ref p, rfl, p, 2, rfl, qd, litM _ (by decide) (by decide), fun w1 H1' w10 w11 r1 c1 => ⟨rfl, _, rfl, ?_⟩⟩
      have keep : ∀ {G : Hp}, But p Hd G → Pot G p → ∃ a' da' y6, [some (.ref p), some (.ref m.m), some k, some v, some (V.ref S1), some a, none, none] = [some (.ref p), some (.ref m.m), some k, some v, some (.ref S1), some a', y6, none] ∧ Pot G p ∧ But p H G ∧ But p Hd G ∧ DB K p G a' da' ∧ ShortD da' := fun {G} b r => ⟨a, da, none, rfl, r, b0d.trans b, b, dba.step b, sda⟩
      by_cases hw1 : w1 = 0
      · rw [show decide (V.int w1 = V.int 0) = true from decide_eq_true (by rw [hw1])]
        refine iteT ⟨k, rfl, by show 2 ≤ sizeLine; decide, fun T nT => ?_⟩
        have tT := same_upd (o := .tup [V.str "pay", .str "clear"]) nT
        have kT : upd H1' T (.tup [V.str "pay", .str "clear"]) T = some (.tup [V.str "pay", .str "clear"]) := upd_same
        have rT := r1.same tT
        generalize upd H1' T (.tup [V.str "pay", .str "clear"]) = H2' at tT kT rT
        have c2 := c1.trans (same_but tT)
        refine ⟨T, ["pay", "clear"], dk, rfl, .inr (.inl (.inl kT)), (by decide +kernel), (dbk'.step c2).dt, .inl clk, _, rfl, ?_⟩
        cases hk : (["pay", "clear"] : List Str).any fun z => PyData.eqv (.str z) dk with
        | false =>
          refine iteF ?_
          exact iteF (keep c2 rT)
        | true =>
          obtain ⟨wd, rfl, hwd⟩ := any_true hk
          have hwd : wd = "pay" ∨ wd = "clear" := by simpa using hwd
          have hM2 := model_but hMd c2 qd np
          refine iteT ⟨v, rfl, .ref m.m, rfl, m.m, .ref m.lo, rfl, hM2.g0, m.lo, zs, dv, rfl, .inl (.inl (.inl hM2.ho)), (fun z hz => name_asc (nz.nm z hz)), ((wv'.step c2).db).dt, wv.cl, _, rfl, ?_⟩
          cases hv : zs.any fun z => PyData.eqv (.str z) dv with
          | false => exact iteF (keep c2 rT)
          | true =>
            obtain ⟨y, rfl, hy⟩ := any_true hv
            have ev : v = .str y := by
              have := wv.db.dt
              cases this
              rfl
            have ek' : k = .str wd := by
              have := dbk.dt
              cases this
              rfl
            subst ev ek'
            refine iteT ⟨.ref p, rfl, p, 1000, rfl, rT, litM _ (by decide) (by decide), fun w3 H3' w30 w31 r3 c3 => ⟨1, w3, rfl, rfl, by show 3 ≤ sizeLine; decide, fun L3 nL3 => ?_⟩⟩
            have tL := same_upd (o := .lst [V.int 0, .int 1, .int (1 + w3)]) nL3
            have kL : upd H3' L3 (.lst [V.int 0, .int 1, .int (1 + w3)]) L3 = some (.lst [V.int 0, .int 1, .int (1 + w3)]) := upd_same
            have rL := r3.same tL
            have L3p := r3.ne nL3
            generalize upd H3' L3 (.lst [V.int 0, .int 1, .int (1 + w3)]) = H4' at tL kL rL
            refine ⟨.ref p, rfl, p, 3, rfl, rL, litM _ (by decide) (by decide), fun w5 H5' w50 w51 r5 c5 => ?_⟩
            obtain ⟨e, ee, me⟩ := pick (xs := [V.int 0, .int 1, .int (1 + w3)]) w50 w51
            refine ⟨L3, _, _, e, rfl, rfl, .inl (.inl (c5 _ _ L3p kL)), ee, ?_⟩
            obtain ⟨j, rfl⟩ : ∃ j, e = .int j := by
              simp only [List.mem_cons, List.not_mem_nil, or_false] at me
              rcases me with rfl | rfl | rfl <;> exact ⟨_, rfl⟩
            have c6 := c2.trans (c3.trans ((same_but tL).trans c5))
            refine ⟨.ref m.m, rfl, .str wd, rfl, .str y, rfl, m, D, zs, wd, y, rfl, model_but hMd c6 qd np, g, hy, hwd, fun H6' s6' => ⟨.int j, rfl, _, _, rfl, rfl, _, _, rfl, ?_⟩⟩
            have c7 := c6.trans (same_but s6')
            exact ⟨_, .int _, _, rfl, r5.same s6', b0d.trans c7, c7, fun _ _ => .int _, fun y e => by cases e⟩
      · rw [show decide (V.int w1 = V.int 0) = false from decide_eq_false fun c => hw1 (V.int.inj c)]
        refine iteF ?_
        exact iteF (keep c1 r1)
    obtain ⟨a', da', y6, rfl, re, b0e, bde, dba', sda'⟩ := hR
    have dbk2 := dbk'.step bde
    have wv2 := wv'.step bde
    -- the step
    refine ⟨k, rfl, v, rfl, a', rfl, by show 3 ≤ sizeLine; decide, fun t nt => ?_⟩
    have u1 := same_upd (o := .tup [k, v, a']) nt
    have v1 : upd He t (.tup [k, v, a']) t = some (.tup [k, v, a']) := upd_same
    have r1 := re.same u1
    have tp := re.ne nt
    generalize upd He t (.tup [k, v, a']) = Hf at u1 v1 r1
    have sq : SqT K Hf t [k, v, a'] := .inl (.inl v1)
    refine ⟨.ref t, rfl, .ref t, rfl, .ref t, rfl, .ref t, rfl, .ref t, rfl, _, rfl, t, _, rfl, sq, (by show ¬ (HT.sIx 3 0 none = 0 ∧ HT.sIx 3 3 (some 2) = 3); decide), fun t2 nt2 => ?_⟩
    have u2 := same_upd (o := .tup (cutV [k, v, a'] none (some 2))) nt2
    have v2 : upd Hf t2 (.tup (cutV [k, v, a'] none (some 2))) t2 = some (.tup [k, v]) := upd_same
    have r2 := r1.same u2
    have t2p := r1.ne nt2
    generalize upd Hf t2 (.tup (cutV [k, v, a'] none (some 2))) = Hg at u2 v2 r2
    refine ⟨.ref t, rfl, by show 1 ≤ sizeLine; decide, fun o no => ?_⟩
    have u3 := same_upd (o := .tup [V.int 1]) no
    have v3 : upd Hg o (.tup [V.int 1]) o = some (.tup [V.int 1]) := upd_same
    have r3 := r2.same u3
    generalize upd Hg o (.tup [V.int 1]) = Hh at u3 v3 r3
    refine ⟨t, o, _, _, rfl, rfl, .inl (.inl (u3 _ _ (u2 _ _ v1))), .inl (.inl v3), (fun e => by cases e), by show 3 + 1 ≤ sizeLine; decide, (fun e => by cases e), fun _ t3 nt3 => ?_⟩
    have u4 := same_upd (o := .tup ([k, v, a'] ++ [V.int 1])) nt3
    have v4 : upd Hh t3 (.tup ([k, v, a'] ++ [V.int 1])) t3 = some (.tup [k, v, a', .int 1]) := upd_same
    have r4 := r3.same u4
    have t3p := r3.ne nt3
    generalize upd Hh t3 (.tup ([k, v, a'] ++ [V.int 1])) = Hi at u4 v4 r4
    refine ⟨.ref t, rfl, t, _, rfl, .inr (.inl (.inl (u4 _ _ (u3 _ _ (u2 _ _ v1))))), fun l nl => ?_⟩
    have u5 := same_upd (o := .lst [k, v, a']) nl
    have v5 : upd Hi l (.lst [k, v, a']) l = some (.lst [k, v, a']) := upd_same
    have r5 := r4.same u5
    have lp := r4.ne nl
    generalize upd Hi l (.lst [k, v, a']) = Hj at u5 v5 r5
    refine ⟨by show 8 ≤ sizeLine; decide, fun S8 nS8 => ?_⟩
    generalize eX : ([.ref t, .ref t, .ref t, .ref t, .ref t2, .ref t3, .ref l, .str "pay"] : List V) = ES
    have u6 := same_upd (o := .lst ES) nS8
    have v6 : upd Hj S8 (.lst ES) S8 = some (.lst ES) := upd_same
    have r6 := r5.same u6
    have S8p := r5.ne nS8
    generalize upd Hj S8 (.lst ES) = Hk at u6 v6 r6
    have lE : ES.length = 8 := by rw [← eX]; rfl
    refine ⟨.ref p, rfl, p, 8, rfl, r6, litM _ (by decide) (by decide), fun e Hl e0 e1 r7 c7 => ?_⟩
    obtain ⟨x, ex, mx⟩ := pick (xs := ES) e0 (by rw [lE]; exact e1)
    refine ⟨S8, _, _, x, rfl, rfl, .inl (.inl (c7 _ _ S8p v6)), ex, ?_⟩
    have beL : But p He Hl := (same_but (u1.trans (u2.trans (u3.trans (u4.trans (u5.trans u6)))))).trans c7
    have w1 := c7 _ _ tp (u6 _ _ (u5 _ _ (u4 _ _ (u3 _ _ (u2 _ _ v1)))))
    have w2 := c7 _ _ t2p (u6 _ _ (u5 _ _ (u4 _ _ (u3 _ _ v2))))
    have w3 := c7 _ _ t3p (u6 _ _ (u5 _ _ v4))
    have w4 := c7 _ _ lp (u6 _ _ v5)
    have dK := (dbk2.step beL).dt
    have dV := (wv2.step beL).db.dt
    have dA := (dba'.step beL).dt
    refine q x Hl r7 (b0e.trans beL) ?_
    rw [← eX] at mx
    simp only [List.mem_cons, List.not_mem_nil, or_false] at mx
    have three : Sp43 K p Hl (.ref t) := .three w1 tp (dbk2.step beL) kdk (wv2.step beL).db wv.so wv.sd wv.as (dba'.step beL) sda'
    rcases mx with rfl | rfl | rfl | rfl | rfl | rfl | rfl | rfl
    · exact three
    · exact three
    · exact three
    · exact three
    · exact .len w2 t2p (fun G g => .cons ((dbk2.step beL) G g) (.cons ((wv2.step beL).db G g) .nil)) (by show (2 : Nat) ≠ 3; decide)
    · exact .len w3 t3p (fun G g => .cons ((dbk2.step beL) G g) (.cons ((wv2.step beL).db G g) (.cons ((dba'.step beL) G g) (.cons (.int 1) .nil)))) (by show (4 : Nat) ≠ 3; decide)
    · exact .no (d := .list [dk, dv, da']) (fun G g => .lst (.inl (.inl (g _ _ lp w4))) (.cons ((dbk2.step beL) G g) (.cons ((wv2.step beL).db G g) (.cons ((dba'.step beL) G g) .nil)))) rfl
    · exact .no (d := .str "pay") (fun _ _ => .str _) rfl
end
end Rc

namespace Rc
open PySem PySem.Spec PyProof.Rows L2 RZ
theorem op_eqDS {X : Cx} {K : PySem.W.Frag} (e : X.K = K) (hu : X.A.units + 64 < cLine) : OpR X (compareOp .Eq) (rEqD K) := by
  subst e
  exact op_eqD hu
theorem call_reprS {X : Cx} {K : PySem.W.Frag} (e : X.K = K) {k : Nat} (hr : Room k X.A) (hg : X.A.guards = some []) : CallR X (.builtin "repr") (rRepr K) := by
  subst e
  exact call_repr hr hg
def rNotInT (K : PySem.W.Frag) : R2 := fun x y H Q => ∃ d ds, Dp K H x d ∧ Dp K H y (.tuple ds) ∧ SeqAt.shaped d = true ∧ SeqAt.shaped (.tuple ds) = true ∧ Q (.bl (!ds.any fun z => PyData.eqv z d)) H
theorem op_notInT {X : Cx} (hu : X.A.units + 65 < cLine) : OpR X (compareOp .NotIn) (rNotInT X.K) := by
  intro pins s σ H x y v u Q I rx ry h
  obtain ⟨d, ds, hd, he, sd, se, q⟩ := h
  obtain ⟨as, r1⟩ := Dp.reads I d x v hd rx
  obtain ⟨bs, r2⟩ := Dp.reads I (.tuple ds) y u he ry
  exact SeqAt.notIn_tuple_reads r2 r1 (SeqAt.canLay_of_shaped se) (SeqAt.canLay_of_shaped sd) (room_in_shaped sd hu) ⟨.bl _, H, I, rfl, q⟩
/-! ### tuples of texts -/
def wsD (ws : List Str) : PyData := .tuple (ws.map PyData.str)
theorem eqv_all : ∀ a b : List Str, PyData.eqvAll (a.map PyData.str) (b.map PyData.str) = decide (a = b)
  | [], [] => by simp [PyData.eqvAll]
  | [], _ :: _ => by simp [PyData.eqvAll]
  | _ :: _, [] => by simp [PyData.eqvAll]
  | x :: a, y :: b => by
    rw [List.map_cons, List.map_cons, PyData.eqvAll, eqv_all a b]
    have : PyData.eqv (.str x) (.str y) = decide (x = y) := by
      simp only [PyData.eqv]
      rw [Bool.eq_iff_iff]
      simp
    rw [this]
    by_cases e1 : x = y <;> by_cases e2 : a = b <;> simp [e1, e2]
theorem eqv_ws (a b : List Str) : PyData.eqv (wsD a) (wsD b) = decide (a = b) := by
  unfold wsD
  simp only [PyData.eqv]
  exact eqv_all a b
theorem shaped_ws {l : List Str} (h : ∀ t ∈ l, Asc t) : SeqAt.shaped (wsD l) = true := by
  have e := shaped12 h
  unfold SeqAt.shaped at e ⊢
  unfold wsD
  simp only [PyData.canLay0, PyData.depth] at e ⊢
  exact e
theorem ws_dp {K : PySem.W.Frag} {H : Hp} {t : Addr} {l : List Str} (h : H t = some (.tup (l.map V.str))) : Dp K H (.ref t) (wsD l) := .tup (.inl (.inl h)) (DpAll.strs l)
abbrev dn43 : List Str := ["done"]
abbrev st43 : List Str := ["step"]
theorem Wd43.nd {K : PySem.W.Frag} {H : Hp} {r : Rf} {ws : List Str} (h : Wd43 K H r ws) : ws ≠ dn43 ∧ (ws = st43 → r = .step) := by
  cases h with
  | step => exact ⟨by decide +kernel, fun _ => rfl⟩
  | such a b => exact ⟨(fun e => by cases e), (fun e => by cases e)⟩
  | amount => exact ⟨by decide +kernel, fun e => absurd e (by decide +kernel)⟩
  | ring a => exact ⟨(fun e => by cases e), (fun e => by cases e)⟩
  | much a b => exact ⟨(fun e => by cases e), (fun e => by cases e)⟩
theorem But.self {p : Addr} (H : Hp) : But p H H := fun _ _ _ e => e
section
variable {K : PySem.W.Frag} {zs : List Str} {D : Md} {p : Addr} {H : Hp} {v : V} {ws : List Str}
theorem Du43.asc (h : Du43 K zs D p H v ws) : ∀ x ∈ ws, Asc x := by
  cases h with
  | no a b c => exact c
  | dn a tp c => exact (by decide +kernel : ∀ x ∈ dn43, Asc x)
theorem Du43.hd0 (h : Du43 K zs D p H v ws) : Hd43 K nos43 H (bkOf zs D) 0 v ws := by
  cases h with
  | no a b c => exact .st (a H (But.self H)) (b H (But.self H))
  | dn ht tp cd =>
    have w := cd.wv
    cases w with
    | pay ok ej m1 mm fo _ => exact .dnP ht ej m1 mm fo
    | clear co _ => exact .dnC ht co
theorem Du43.hd3 (h : Du43 K zs D p H v ws) (g : Gs zs D) {l o : Addr} (hl : H l = some (.lst [v, .ref o])) (ho : H o = some (.tup [.str "pay"])) : Hd43 K nos43 H (bkOf zs D) 3 (.ref l) (if ws = dn43 then st43 else ws) := by
  cases h with
  | no a b c =>
    have w := b H (But.self H)
    rw [if_neg w.nd.1]
    exact .wv (W := []) hl (fun i x p _ e => by cases e) (.nil _) rfl (a H (But.self H)) g.ok g.closed w
  | @dn t wd z m r ht tp cd =>
    rw [if_pos rfl]
    refine .wv (W := [(wd, z, m)]) hl (fun i x q e1 e2 => ?_) cd.wv rfl (.no (.len (.inl (.inl ho)) (.cons (.str _) .nil) (by show (1 : Nat) ≠ 3; decide))) cd.g.ok cd.g.closed .step
    cases i with
    | zero =>
      cases e1
      cases e2
      exact ⟨t, rfl, ht⟩
    | succ i => cases e2
theorem Du43.hd3' (h : Du43 K zs D p H v ws) (g : Gs zs D) (nd : ws ≠ dn43) {l : Addr} {y : V} (hl : H l = some (.lst [v, y])) : Hd43 K nos43 H (bkOf zs D) 3 (.ref l) ws := by
  cases h with
  | no a b c => exact .wv (W := []) hl (fun i x p _ e => by cases e) (.nil _) rfl (a H (But.self H)) g.ok g.closed (b H (But.self H))
  | dn ht tp cd => exact absurd rfl nd
theorem Du43.hd1 (h : Du43 K zs D p H v ws) (ns : ws ≠ st43) (nd : ws ≠ dn43) : ∃ (t : Addr) (wd : Str) (u a : V), v = .ref t ∧ H t = some (.tup [.str wd, u, a]) ∧ ((wd = "pay" ∧ Hd43 K nos43 H (bkOf zs D) 1 v ws) ∨ (wd = "clear" ∧ Hd43 K nos43 H (bkOf zs D) 2 v ws)) := by
  cases h with
  | @no _ r _ a b c =>
    have w := b H (But.self H)
    have s := a H (But.self H)
    cases s with
    | no hn =>
      cases w
      exact absurd rfl ns
    | pay ht hp => exact ⟨_, _, _, _, rfl, ht, .inl ⟨rfl, .py ht hp w⟩⟩
    | clear ht hp => exact ⟨_, _, _, _, rfl, ht, .inr ⟨rfl, .cl ht hp w⟩⟩
  | dn ht tp cd => exact absurd rfl nd
/-- a good step, then one that is none -/
theorem Du43.hdG (h : Du43 K zs D p H v ws) (es : ws = st43) {l t : Addr} {wd z : Str} {m : Int} {r : List Str} (cd : CanD zs D wd z m r) (ht : H t = some (.tup [.str wd, .str z, .int m])) (hl : H l = some (.lst [.ref t, v])) : Hd43 K nos43 H (bkOf zs D) 3 (.ref l) ws := by
  cases h with
  | @no _ r' _ a b c =>
    have w := b H (But.self H)
    have s := a H (But.self H)
    obtain rfl := w.nd.2 es
    have sn : StR K nos43 H (bkOf zs (fallAll zs D r m)) v .step := by
      cases s with
      | no hn => exact .no hn
      | pay _ hp => cases hp
      | clear _ hp => cases hp
    refine .wv (W := [(wd, z, m)]) hl (fun i x q e1 e2 => ?_) cd.wv rfl sn cd.g.ok cd.g.closed w
    cases i with
    | zero =>
      cases e1
      cases e2
      exact ⟨t, rfl, ht⟩
    | succ i => cases e2
  | dn ht tp cd => exact absurd es (by decide +kernel)
end
/-! ### steps that can be done, by 1 -/
def goodD (p : Str × Str) : PyData := .tuple [.str p.1, .str p.2, .int 1]
theorem steps_mem43 {zs : List Str} {D : Md} {p : Str × Str} (h : p ∈ stepsW zs D) : p.2 ∈ zs ∧ 0 < mostW zs D p.1 p.2 ∧ (p.1 = "pay" ∨ p.1 = "clear") := by
  unfold stepsW at h
  obtain ⟨y, hy, h3⟩ := List.mem_flatMap.mp h
  unfold stepsAt at h3
  obtain ⟨q, hq, rfl⟩ := List.mem_map.mp h3
  obtain ⟨h5, h4⟩ := List.mem_filter.mp hq
  refine ⟨hy, of_decide_eq_true h4, ?_⟩
  rcases List.mem_cons.mp h5 with h | h
  · exact .inl h
  · exact .inr (List.mem_singleton.mp h)
theorem shaped_goods {zs : List Str} (nz : NamesOk zs) {W : List (Str × Str)} (h : ∀ p ∈ W, p.2 ∈ zs ∧ (p.1 = "pay" ∨ p.1 = "clear")) : SeqAt.shaped (.list (W.map goodD)) = true := by
  have l1 : ∀ p ∈ W, (goodD p).canLay0 = true := fun p hp => by
    obtain ⟨h1, h2⟩ := h p hp
    have e2 := (nice_name (nz.nm _ h1)).cl
    have e1 : (PyData.str p.1).canLay0 = true := by
      rcases h2 with h2 | h2 <;> (rw [h2]; decide +kernel)
    unfold goodD
    simp only [PyData.canLay0, PyData.canLayAll0] at e1 e2 ⊢
    rw [e1, e2]
    rfl
  have ec : (PyData.list (W.map goodD)).canLay0 = true := by
    simp only [PyData.canLay0]
    exact lay_map l1
  have d : PyData.depthAll (W.map goodD) ≤ 2 := by
    clear h l1 ec
    induction W with
    | nil => exact Nat.zero_le _
    | cons a r ih =>
      rw [List.map_cons]
      simp only [PyData.depthAll]
      have : (goodD a).depth ≤ 2 := by
        unfold goodD
        simp only [PyData.depth, PyData.depthAll]
        omega
      omega
  unfold SeqAt.shaped
  rw [ec, decide_eq_true (show (PyData.list (W.map goodD)).depth ≤ 64 by simp only [PyData.depth]; omega)]
  rfl
theorem sts_dp {K : PySem.W.Frag} {H : Hp} : ∀ {ys : List V} {W : List (Str × Str)}, StsAt H ys (W.map fun q => (q.1, q.2, (1 : Int))) → DpAll K H ys (W.map goodD)
  | [], [], _ => .nil
  | [], _ :: _, h => by cases h.1
  | _ :: _, [], h => by cases h.1
  | y :: ys, q :: W, h => by
    obtain ⟨t, rfl, ht⟩ := h.2 0 y _ rfl rfl
    exact .cons (.tup (.inl (.inl ht)) (.cons (.str _) (.cons (.str _) (.cons (.int _) .nil)))) (sts_dp ⟨by have := h.1; simpa using this, fun i x p e1 e2 => h.2 (i + 1) x p e1 e2⟩)
section
variable {P : Program} {w : World} {K : PySem.W.Frag} {mg : Str → Option Value} {base : Heap}
/-! ### _law_names_right -/
abbrev sLNr : Stmt := topS 72
abbrev nLNr : List Str := ["_law_pot_here", "_law_model_here", "_law_book", "_law_odd", "_law_kind"]
theorem scLNr : FnScope nLNr ["_law_pot_here", "_law_model_here", "_law_book"] (defScope sLNr) := ⟨rfl, rfl, rfl, by decide +kernel, rfl, by decide +kernel, by decide +kernel⟩
def spLNr (K : PySem.W.Frag) (C : Addr) : Sp := fun vs H Q _ => ∃ (p b : Addr) (mv : V) (M : Bk), vs = [.ref p, mv, .ref b] ∧ Pot H p ∧ BookAt K C H b M ∧ NamesOk M.names ∧ ∀ H', Pot H' p → But p H H' → Q (.bl true) H'
set_option maxHeartbeats 4000000 in
theorem ok_lnr {f fT f1 C : Addr} {fd fdT fd1 : FuncData} (F : Fun K "_law_names_right" "_law_names_right" sLNr f fd) (B : Blt mg) (B2 : Blt2 mg) (TK : HasTake P w K mg base fT fdT) (MH : HasG P w K mg base 9 "_law_most_heard" ["_law_book", "_law_who", "_law_kind"] (spLMh K C) f1 fd1) : FnG P w K mg base CX0 10 f fd ["_law_pot_here", "_law_model_here", "_law_book"] (spLNr K C) := by
  refine okG0 F scLNr (fun vs H Q E h => ?_) (fun cdv Ar outer s H vs Q E0 hr hgd h => ?_)
  · obtain ⟨_, _, _, _, rfl, _⟩ := h
    rfl
  · obtain ⟨p, b, mv, M, rfl, hp, hb, nz, q⟩ := h
    have hr1 := hr.mono (show 1 ≤ 9 by decide)
    refine ⟨_, (pss_cons (ps_set (i := 3) scLNr.nd rfl (.inr rfl) (pe_ix ix_list (pe_lst (pa_cons pe_str (pa_cons pe_non (pa_cons pe_int (pa_cons (pe_tup (pa_cons pe_str pa_nil)) (pa_cons (pe_lst (pa_cons pe_str pa_nil)) (pa_cons pe_dnewK (pa_cons pe_str pa_nil)))))))) (pe_call TK.ok hr1 (by rfl) TK.g TK.kp TK.b .nil pass0 (pa_cons (pv 0) (pa_cons pe_int pa_nil))) (fun _ _ => rfl))) (pss_one (ps_ret (pe_callB (cr_all rfl) (by rfl) B.all (by decide +kernel) (pa_cons (pe_lc (own := [("_law_kind", 4)]) (g := gName 4) (tt := tYes) rfl scLNr.nd (pi_tup (pe_tup (pa_cons pe_str (pa_cons pe_str pa_nil)))) (blkOk_by (N := nLNr) (sc := defScope sLNr) (own := [("_law_kind", 4)]) (by decide +kernel)) (fun _ _ _ _ _ => pg_name (i := 4) scLNr.nd rfl (.inl rfl) (hf := .inr rfl)) (fun _ _ _ _ _ => pts_nil) (fun _ _ _ _ _ => pe_cmpR (op_eqDS (K := K) rfl hr.units) (pe_callG MH.ok hr hgd (by rfl) MH.g MH.kp MH.b .nil pass0 (pa_cons (pv 2) (pa_cons (pv 3) (pa_cons (pv 4) pa_nil)))) (pe_tup (pa_cons pe_str (pa_cons (pe_callB (call_reprS (K := K) rfl hr hgd) (by rfl) B2.repr (by decide +kernel) (pa_cons (pv 3) pa_nil)) pa_nil))) (nomark _))) pa_nil))))), ?_⟩
    refine ⟨by show 1 ≤ sizeLine; decide, fun t1 nt1 => ?_⟩
    have s1 := same_upd (o := .tup [V.str "a"]) nt1
    have h1 : upd H t1 (.tup [V.str "a"]) t1 = some (.tup [V.str "a"]) := upd_same
    have p1 := hp.same s1
    have n1 := hp.ne nt1
    generalize upd H t1 (.tup [V.str "a"]) = H1 at s1 h1 p1
    refine ⟨by show 1 ≤ sizeLine; decide, fun l1 nl1 => ?_⟩
    have s2 := same_upd (o := .lst [V.str "a"]) nl1
    have h2 : upd H1 l1 (.lst [V.str "a"]) l1 = some (.lst [V.str "a"]) := upd_same
    have p2 := p1.same s2
    have n2 := p1.ne nl1
    generalize upd H1 l1 (.lst [V.str "a"]) = H2 at s2 h2 p2
    refine fun d1 nd1 => ?_
    have s3 := same_upd (o := .dK []) nd1
    have h3 : upd H2 d1 (.dK []) d1 = some (.dK []) := upd_same
    have p3 := p2.same s3
    have n3 := p2.ne nd1
    generalize upd H2 d1 (.dK []) = H3 at s3 h3 p3
    refine ⟨by show 7 ≤ sizeLine; decide, fun L nL => ?_⟩
    generalize eX : ([V.str "", .non, .int 7, .ref t1, .ref l1, .ref d1, .str "nineletter"] : List V) = XS
    have s4 := same_upd (o := .lst XS) nL
    have h4 : upd H3 L (.lst XS) L = some (.lst XS) := upd_same
    have p4 := p3.same s4
    have n4 := p3.ne nL
    generalize upd H3 L (.lst XS) = H4 at s4 h4 p4
    have lX : XS.length = 7 := by rw [← eX]; rfl
    refine ⟨.ref p, rfl, p, 7, rfl, p4, litM _ (by decide) (by decide), fun u H5 u0 u1 p5 b5 => ?_⟩
    obtain ⟨x, ex, mx⟩ := pick (xs := XS) u0 (by rw [lX]; exact u1)
    refine ⟨L, _, _, x, rfl, rfl, .inl (.inl (b5 _ _ n4 h4)), ex, ?_⟩
    have s14 := s1.trans (s2.trans (s3.trans s4))
    have b05 : But p H H5 := (same_but s14).trans b5
    have g1 := b5 _ _ n1 (s4 _ _ (s3 _ _ (s2 _ _ h1)))
    have g2 := b5 _ _ n2 (s4 _ _ (s3 _ _ h2))
    have g3 := b5 _ _ n3 (s4 _ _ h3)
    have noN : ∀ y : Str, nameT y = false → hasD M (.str y) = false := fun y e => decide_eq_false fun hm => by
      rw [nz.nm y hm] at e
      cases e
    have key : ∃ d, Dt K H5 x d ∧ ShowOk d ∧ ShortD d ∧ Asc d.shown ∧ hasD M d = false := by
      rw [← eX] at mx
      simp only [List.mem_cons, List.not_mem_nil, or_false] at mx
      rcases mx with rfl | rfl | rfl | rfl | rfl | rfl | rfl
      · exact ⟨.str "", .str _, ⟨by decide +kernel, .inl (by decide +kernel), by decide +kernel, .inr (by decide +kernel)⟩, (fun y e => by cases e; decide), by decide +kernel, noN _ (by decide +kernel)⟩
      · exact ⟨.none, .non, ⟨by decide +kernel, .inl (by decide +kernel), by decide +kernel, .inr (by decide +kernel)⟩, (fun y e => by cases e), by decide +kernel, rfl⟩
      · exact ⟨.int 7, .int _, ⟨by decide +kernel, .inl (by decide +kernel), by decide +kernel, .inr (by decide +kernel)⟩, (fun y e => by cases e), by decide +kernel, rfl⟩
      · exact ⟨.tuple [.str "a"], .tup (.inl (.inl g1)) (.cons (.str _) .nil), ⟨by decide +kernel, .inl (by decide +kernel), by decide +kernel, .inr (by decide +kernel)⟩, (fun y e => by cases e), by decide +kernel, rfl⟩
      · exact ⟨.list [.str "a"], .lst (.inl (.inl g2)) (.cons (.str _) .nil), ⟨by decide +kernel, .inl (by decide +kernel), by decide +kernel, .inr (by decide +kernel)⟩, (fun y e => by cases e), by decide +kernel, rfl⟩
      · exact ⟨.dict [], .dct (kvs := []) g3 .nil .nil, ⟨by decide +kernel, .inr ⟨_, rfl⟩, by decide +kernel, .inr (by decide +kernel)⟩, (fun y e => by cases e), by decide +kernel, rfl⟩
      · exact ⟨.str "nineletter", .str _, ⟨by decide +kernel, .inl (by decide +kernel), by decide +kernel, .inr (by decide +kernel)⟩, (fun y e => by cases e; decide), by decide +kernel, noN _ (by decide +kernel)⟩
    obtain ⟨d, dx, so, sd, ax, no⟩ := key
    have hb5 := hb.keep (b05.kpP hp)
    clear eX mx
    refine ⟨by show 2 ≤ sizeLine; decide, fun T nT => ?_⟩
    have s6 := same_upd (o := .tup [V.str "pay", .str "clear"]) nT
    have h6 : upd H5 T (.tup [V.str "pay", .str "clear"]) T = some (.tup [V.str "pay", .str "clear"]) := upd_same
    have p6 := p5.same s6
    generalize upd H5 T (.tup [V.str "pay", .str "clear"]) = H6 at s6 h6 p6
    refine ⟨T, rfl, ⟨_, .inl (.inl h6)⟩, fun D nD => ?_⟩
    refine lc_it (walk_tup (K := K) (a := T) (xs := [V.str "pay", .str "clear"])) (fun i H' => Same H6 H' ∧ H' D = some (.lst ((List.replicate i true).map V.bl))) ⟨same_upd nD, upd_same⟩ (fun i H' _ hP => same_seqT hP.1 (.inl (.inl h6))) (fun i z H7' H7 hi hP hY => ?_) (fun H7 hP => ?_)
    · obtain ⟨rfl, hz⟩ := hY
      obtain ⟨s7, hD⟩ := hP
      have hi : i < 2 := hi
      have hz' : ∃ wd : Str, z = .str wd ∧ (wd = "pay" ∨ wd = "clear") := by
        match i, hz with
        | 0, hz => cases hz; exact ⟨_, rfl, .inl rfl⟩
        | 1, hz => cases hz; exact ⟨_, rfl, .inr rfl⟩
        | i + 2, hz => cases hz
      obtain ⟨wd, rfl, hw⟩ := hz'
      have s57 := s6.trans s7
      refine ⟨rfl, .ref b, rfl, x, rfl, .str wd, rfl, b, M, x, d, wd, rfl, hw, book_same hb5 s57, nz, Dt.same s57 _ dx, sd, so, no, fun t H8 s8 ht => ?_⟩
      have s58 := s57.trans s8
      refine ⟨x, rfl, x, d, rfl, Dt.same s58 _ dx, so.sh, so.tp, so.dp, so.ft, by show 2 ≤ sizeLine; decide, fun t2 nt2 => ?_⟩
      have s9 := same_upd (o := .tup [V.str "such", .str d.shown]) nt2
      have h9 : upd H8 t2 (.tup [V.str "such", .str d.shown]) t2 = some (.tup [V.str "such", .str d.shown]) := upd_same
      generalize upd H8 t2 (.tup [V.str "such", .str d.shown]) = H9 at s9 h9
      have sh := shaped_ws (l := ["such", d.shown]) (asc2 (by decide +kernel) ax)
      refine ⟨_, _, ws_dp (l := ["such", d.shown]) (s9 _ _ ht), ws_dp (l := ["such", d.shown]) h9, sh, sh, ?_⟩
      rw [eqv_ws, decide_eq_true rfl]
      have hD9 := s9 _ _ (s8 _ _ hD)
      refine ⟨_, hD9, ?_, fun c o ec => ?_, ?_⟩
      · rw [List.length_map, List.length_replicate]
        exact small1000 (by omega)
      · rw [upd_ne (ne_of_none ec nD)]
        exact s9 _ _ (s8 _ _ (s7 _ _ ec))
      · rw [upd_same, List.replicate_succ', List.map_append]
        rfl
    obtain ⟨s7, hD⟩ := hP
    refine ⟨D, List.replicate 2 true, rfl, .inl (.inl hD), ?_⟩
    exact q H7 (p6.same s7) (b05.trans (same_but (s6.trans s7)))

/-! ### _law_right -/
abbrev sLRt : Stmt := topS 73
abbrev nLRt : List Str := ["_law_pot_here", "_law_model_here", "_law_book", "_law_k", "_law_step", "_law_due_here", "_law_behind", "_law_other", "_law_good", "_law_kind", "_law_who"]
theorem scLRt : FnScope nLRt ["_law_pot_here"] (defScope sLRt) := ⟨rfl, rfl, rfl, by decide +kernel, rfl, by decide +kernel, by decide +kernel⟩
def spLRt : Sp := fun vs H Q _ => ∃ p, vs = [.ref p] ∧ Pot H p ∧ ∀ H', But p H H' → Q (.bl true) H'
set_option maxHeartbeats 8000000 in
theorem ok_lrt {f f1 f2 f3 f4 f5 f6 f7 C : Addr} {fd fd1 fd2 fd3 fd4 fd5 fd6 fd7 : FuncData} (F : Fun K "_law_right" "_law_right" sLRt f fd) (B : Blt mg) (B2 : Blt2 mg) (DR : Has P w K mg base 8 "_law_drawn" ["_law_pot_here", "_law_most_here", "_law_many"] (spLDr K C) f1 fd1) (NR : HasG P w K mg base 10 "_law_names_right" ["_law_pot_here", "_law_model_here", "_law_book"] (spLNr K C) f2 fd2)
    (SP : Has P w K mg base 7 "_law_spoilt" ["_law_pot_here", "_law_model_here"] (spLSo K) f3 fd3) (DU : HasG P w K mg base 7 "_law_due" ["_law_model_here", "_law_step"] (spLDu K) f4 fd4) (HD : HasG P w K mg base 12 "_law_heard" ["_law_way", "_law_book", "_law_step"] (spLHd K C nos43) f5 fd5)
    (SS : Has P w K mg base 7 "_law_steps" ["_law_model_here"] (spLSs K) f6 fd6) (AL : HasG P w K mg base 6 "_law_alike" ["_law_model_here", "_law_book"] (spLAl K C) f7 fd7) : FnG P w K mg base CX0 13 f fd ["_law_pot_here"] spLRt := by
  refine okG0 F scLRt (fun vs H Q E h => ?_) (fun cdv Ar outer s H vs Q E0 hr hgd h => ?_)
  · obtain ⟨_, rfl, _⟩ := h
    rfl
  · obtain ⟨p, rfl, hp, q⟩ := h
    have hr12 := hr
    have hr10 := hr.mono (show 10 ≤ 12 by decide)
    have hr8 := hr.mono (show 8 ≤ 12 by decide)
    have hr7 := hr.mono (show 7 ≤ 12 by decide)
    have hr6 := hr.mono (show 6 ≤ 12 by decide)
    have hu65 : (Ar.deeper (envOfC "_law_right" (defScope sLRt) s.heap.objs.size f cdv)).units + 65 < cLine := by have := hr.un; omega
    refine ⟨_, (pss_cons (ps_asg (pe_call DR.ok hr8 (by rfl) DR.g DR.kp DR.b .nil pass0 (pa_cons (pv 0) (pa_cons pe_int (pa_cons pe_int pa_nil)))) (pg_tup rfl (pgs_cons (pg_name (i := 1) scLRt.nd rfl (.inl rfl)) (pgs_cons (pg_name (i := 2) scLRt.nd rfl (.inl rfl)) pgs_nil)))) (pss_cons (ps_if (pt_not (pt_val (pe_callG NR.ok hr10 hgd (by rfl) NR.g NR.kp NR.b .nil pass0 (pa_cons (pv 0) (pa_cons (pv 1) (pa_cons (pv 2) pa_nil)))))) (pss_one (ps_ret pe_bl)) pss_nil) (pss_cons (ps_for PassesOwn.never rfl (pi_range1 (by rfl) B2.range (pa_cons pe_int pa_nil)) (pg_name (i := 3) scLRt.nd rfl (.inl rfl)) (pss_cons (ps_set (i := 4) scLRt.nd rfl (.inl rfl) (pe_call SP.ok hr7 (by rfl) SP.g SP.kp SP.b .nil pass0 (pa_cons (pv 0) (pa_cons (pv 1) pa_nil)))) (pss_cons (ps_set (i := 5) scLRt.nd rfl (.inl rfl) (pe_callG DU.ok hr7 hgd (by rfl) DU.g DU.kp DU.b .nil pass0 (pa_cons (pv 1) (pa_cons (pv 4) pa_nil)))) (C8.pss_cut (ps_set (i := 6) scLRt.nd rfl (.inl rfl) (pe_ifExp (pt_cmpR (op_eqD hr.units) (pv 5) (pe_tup (pa_cons pe_str pa_nil)) (nomark _)) (pe_tup (pa_cons pe_str pa_nil)) (pv 5))) (C8.pss_cut (ps_if (PW.pt (pw_or (pt_cmpR (op_neD hr.units) (pe_callG HD.ok hr12 hgd (by rfl) HD.g HD.kp HD.b .nil pass0 (pa_cons pe_int (pa_cons (pv 2) (pa_cons (pv 4) pa_nil)))) (pv 5) (nomark _)) (pw_or1 (pt_cmpR (op_neD hr.units) (pe_callG HD.ok hr12 hgd (by rfl) HD.g HD.kp HD.b .nil pass0 (pa_cons pe_int (pa_cons (pv 2) (pa_cons (pe_lst (pa_cons (pv 4) (pa_cons (pe_tup (pa_cons pe_str pa_nil)) pa_nil))) pa_nil)))) (pv 6) (nomark _))))) (pss_one (ps_ret pe_bl)) pss_nil) (C8.pss_cut (ps_if (PW.pt (pw_and (pt_cmpR (op_notInT hu65) (pv 5) (pe_tup (pa_cons (pe_tup (pa_cons pe_str pa_nil)) (pa_cons (pe_tup (pa_cons pe_str pa_nil)) pa_nil))) (by rfl)) (pw_and1 (pt_cmpR (op_neD hr.units) (pe_callG HD.ok hr12 hgd (by rfl) HD.g HD.kp HD.b .nil pass0 (pa_cons (pe_ix ix_list (pe_lst (pa_cons pe_int (pa_cons pe_int pa_nil))) (pe_callTy call_int1 (by rfl) B.int (by decide +kernel) (pa_cons (pe_cmpR op_eq (pe_ix ix_tup (pv 4) pe_int (fun _ _ => rfl)) pe_str (nomark _)) pa_nil)) (fun _ _ => rfl)) (pa_cons (pv 2) (pa_cons (pv 4) pa_nil)))) (pv 5) (nomark _))))) (pss_one (ps_ret pe_bl)) pss_nil) (pss_cons (ps_set (i := 7) scLRt.nd rfl (.inl rfl) (pe_call SP.ok hr7 (by rfl) SP.g SP.kp SP.b .nil pass0 (pa_cons (pv 0) (pa_cons (pv 1) pa_nil)))) (C8.pss_cut (ps_if (PW.pt (pw_and (pt_cmpR (op_neD hr.units) (pv 5) (pe_tup (pa_cons pe_str pa_nil)) (nomark _)) (pw_and1 (pt_cmpR (op_neD hr.units) (pe_callG HD.ok hr12 hgd (by rfl) HD.g HD.kp HD.b .nil pass0 (pa_cons pe_int (pa_cons (pv 2) (pa_cons (pe_lst (pa_cons (pv 4) (pa_cons (pv 7) pa_nil))) pa_nil)))) (pv 5) (nomark _))))) (pss_one (ps_ret pe_bl)) pss_nil) (pss_cons (ps_setLc (i := 8) (own := [("_law_kind", 9), ("_law_who", 10)]) (g := gTup K 2 (gCons (gName 9) (gCons (gName 10) gNil))) (tt := tYes) rfl scLRt.nd rfl rfl (sw_true rfl rfl rfl (by decide +kernel)) (pi_list (pe_call SS.ok hr7 (by rfl) SS.g SS.kp SS.b .nil pass0 (pa_cons (pv 1) pa_nil))) (blkOk_by (N := nLRt) (sc := defScope sLRt) (own := [("_law_kind", 9), ("_law_who", 10)]) (by decide +kernel)) (fun _ _ _ _ _ => pg_tup rfl (pgs_cons (pg_name (i := 9) scLRt.nd rfl (.inl rfl) (hf := .inr rfl)) (pgs_cons (pg_name (i := 10) scLRt.nd rfl (.inl rfl) (hf := .inr rfl)) pgs_nil))) (fun _ _ _ _ _ => pts_nil) (fun _ _ _ _ _ => (pe_tup (pa_cons (pv 9) (pa_cons (pv 10) (pa_cons pe_int pa_nil)))))) (pss_one (ps_if (PW.pt (pw_and (pt_cmpR (op_neD hr.units) (pv 8) (pe_lst pa_nil) (nomark _)) (pw_and (pt_cmpR (op_eqD hr.units) (pv 5) (pe_tup (pa_cons pe_str pa_nil)) (nomark _)) (pw_and1 (pt_cmpR (op_neD hr.units) (pe_callG HD.ok hr12 hgd (by rfl) HD.g HD.kp HD.b .nil pass0 (pa_cons pe_int (pa_cons (pv 2) (pa_cons (pe_lst (pa_cons (pe_ix ix_list (pv 8) pe_int (fun _ _ => rfl)) (pa_cons (pv 4) pa_nil))) pa_nil)))) (pv 5) (nomark _)))))) (pss_one (ps_ret pe_bl)) pss_nil))))))))))) (pss_one (ps_ret (pe_callG AL.ok hr6 hgd (by rfl) AL.g AL.kp AL.b .nil pass0 (pa_cons (pv 1) (pa_cons (pv 2) pa_nil)))))))), ?_⟩
    refine ⟨.ref p, rfl, p, 12, 10, rfl, hp, by decide, by decide, by decide, by decide, fun zs m D b k T H1 p1 b1 hT hM hb nz gd hk na => ?_⟩
    have g : Gs zs D := gd.gs nz hM.lg hM.ln
    have gb : Gb D := gd.gb
    have np : ¬ m.Has p := fun h => by
      have := na p h
      obtain ⟨_, _, e, _⟩ := hp
      rw [e] at this
      cases this
    refine ⟨T, _, rfl, .inl (.inl hT), rfl, _, _, rfl, _, _, rfl, rfl, ?_⟩
    refine ⟨.ref p, rfl, .ref m.m, rfl, .ref b, rfl, p, b, .ref m.m, bkOf zs D, rfl, p1, hb, nz, fun H2 p2 b2 => ⟨_, rfl, iteF ?_⟩⟩
    refine ⟨8, rfl, by decide, by decide, ?_⟩
    refine for_it walk_range (fun i σ H' => ∃ y3 y4 y5 y6 y7 y8, σ = [some (.ref p), some (.ref m.m), some (.ref b), y3, y4, y5, y6, y7, y8, none, none] ∧ Pot H' p ∧ But p H1 H') ⟨_, _, _, _, _, _, rfl, p2, b2⟩ (fun _ _ _ _ _ => trivial) (fun i x σ H3' H3 hi hP hY => ?_) (fun σ H3 hP => ?_)
    · obtain ⟨rfl, rfl⟩ := hY
      obtain ⟨y3, y4, y5, y6, y7, y8, rfl, p3, b3⟩ := hP
      have mod : ∀ {G : Hp}, But p H1 G → ModelAt K G zs m D := fun b => model_but hM b p1 np
      have bok : ∀ {G : Hp}, But p H1 G → BookAt K C G b (bkOf zs D) := fun c => hb.keep (c.kpP p1)
      refine ⟨.ref p, rfl, .ref m.m, rfl, p, m, D, zs, rfl, p3, mod b3, g, gb, np, fun v H4 p4 b4 hs => ?_⟩
      have b14 := b3.trans b4
      refine ⟨.ref m.m, rfl, v, rfl, m, D, zs, v, p, rfl, mod b14, g, gb, hs, fun t ws H5 s5 du ht => ?_⟩
      have b15 := b14.trans (same_but s5)
      have p5 := p4.same s5
      have tp : t ≠ p := fun e => by
        obtain ⟨_, _, ep, _⟩ := p5
        rw [e, ep] at ht
        cases ht
      have sw := shaped_ws du.asc
      have dts : ∀ {G : Hp}, But p H5 G → Dp K G (.ref t) (wsD ws) := fun c => ws_dp (c _ _ tp ht)
      -- behind
      refine ⟨fun σ H' => ∃ t6 ws6, σ = [some (.ref p), some (.ref m.m), some (.ref b), some (.int (0 + (i : Int))), some v, some (.ref t), some (.ref t6), y7, y8, none, none] ∧ Same H5 H' ∧ H' t6 = some (.tup (ws6.map V.str)) ∧ ws6 = (if ws = dn43 then st43 else ws), ?_, fun σ H6 hR => ?_⟩
      · refine ⟨.ref t, rfl, by show 1 ≤ sizeLine; decide, fun o no => ?_⟩
        have s6 := same_upd (o := .tup [V.str "done"]) no
        have h6 : upd H5 o (.tup [V.str "done"]) o = some (.tup [V.str "done"]) := upd_same
        generalize upd H5 o (.tup [V.str "done"]) = H6 at s6 h6
        refine ⟨wsD ws, wsD dn43, dts (same_but s6), ws_dp (l := dn43) h6, sw, shaped_ws (by decide +kernel), _, rfl, ?_⟩
        rw [eqv_ws]
        by_cases e : ws = dn43
        · rw [decide_eq_true e]
          exact iteT ⟨by show 1 ≤ sizeLine; decide, fun o2 no2 => ⟨o2, st43, rfl, s6.trans (same_upd no2), upd_same, (if_pos e).symm⟩⟩
        · rw [decide_eq_false e]
          exact iteF ⟨.ref t, rfl, t, ws, rfl, s6, s6 _ _ ht, (if_neg e).symm⟩
      obtain ⟨t6, ws6, rfl, s6, ht6, e6⟩ := hR
      have b16 := b15.trans (same_but s6)
      have p6 := p5.same s6
      have sw6 : SeqAt.shaped (wsD ws6) = true := by
        rw [e6]
        split
        · exact shaped_ws (by decide +kernel)
        · exact sw
      have t6p : t6 ≠ p := fun e => by
        obtain ⟨_, _, ep, _⟩ := p6
        rw [e, ep] at ht6
        cases ht6
      -- heard
      refine ⟨fun σ H' => σ = [some (.ref p), some (.ref m.m), some (.ref b), some (.int (0 + (i : Int))), some v, some (.ref t), some (.ref t6), y7, y8, none, none] ∧ Same H6 H', ?_, fun σ H7 hR => ?_⟩
      · refine ⟨.ref b, rfl, v, rfl, 0, b, bkOf zs D, v, ws, rfl, bok b16, g.ok, g.closed, (du.step (same_but s6)).hd0, fun t7 H7 s7 ht7 => ⟨.ref t, rfl, wsD ws, wsD ws, ws_dp ht7, dts (same_but (s6.trans s7)), sw, sw, _, rfl, ?_⟩⟩
        rw [eqv_ws, decide_eq_true rfl]
        have b17 := b16.trans (same_but s7)
        refine iteF ⟨.ref b, rfl, v, rfl, by show 1 ≤ sizeLine; decide, fun o no => ?_⟩
        have s8 := same_upd (o := .tup [V.str "pay"]) no
        have h8 : upd H7 o (.tup [V.str "pay"]) o = some (.tup [V.str "pay"]) := upd_same
        generalize upd H7 o (.tup [V.str "pay"]) = H8 at s8 h8
        refine ⟨by show 2 ≤ sizeLine; decide, fun l nl => ?_⟩
        have s9 := same_upd (o := .lst [v, V.ref o]) nl
        have h9 : upd H8 l (.lst [v, V.ref o]) l = some (.lst [v, V.ref o]) := upd_same
        generalize upd H8 l (.lst [v, V.ref o]) = H9 at s9 h9
        have s69 := s7.trans (s8.trans s9)
        refine ⟨3, b, bkOf zs D, .ref l, ws6, rfl, bok (b16.trans (same_but s69)), g.ok, g.closed, by rw [e6]; exact (du.step (same_but (s6.trans s69))).hd3 g h9 (s9 _ _ h8), fun t10 H10 s10 ht10 => ⟨.ref t6, rfl, wsD ws6, wsD ws6, ws_dp ht10, ws_dp ((s69.trans s10) _ _ ht6), sw6, sw6, _, rfl, ?_⟩⟩
        rw [eqv_ws, decide_eq_true rfl]
        exact iteF ⟨rfl, s69.trans s10⟩
      obtain ⟨rfl, s7⟩ := hR
      have s57 := s6.trans s7
      have b17 := b16.trans (same_but s7)
      have p7 := p6.same s7
      -- by its own way
      refine ⟨fun σ H' => σ = [some (.ref p), some (.ref m.m), some (.ref b), some (.int (0 + (i : Int))), some v, some (.ref t), some (.ref t6), y7, y8, none, none] ∧ Same H7 H', ?_, fun σ H8 hR => ?_⟩
      · refine ⟨.ref t, rfl, by show 1 ≤ sizeLine; decide, fun o1 no1 => ?_⟩
        have r1 := same_upd (o := .tup [V.str "step"]) no1
        have k1 : upd H7 o1 (.tup [V.str "step"]) o1 = some (.tup [V.str "step"]) := upd_same
        generalize upd H7 o1 (.tup [V.str "step"]) = G1 at r1 k1
        refine ⟨by show 1 ≤ sizeLine; decide, fun o2 no2 => ?_⟩
        have r2 := same_upd (o := .tup [V.str "done"]) no2
        have k2 : upd G1 o2 (.tup [V.str "done"]) o2 = some (.tup [V.str "done"]) := upd_same
        generalize upd G1 o2 (.tup [V.str "done"]) = G2 at r2 k2
        refine ⟨by show 2 ≤ sizeLine; decide, fun o3 no3 => ?_⟩
        have r3 := same_upd (o := .tup [V.ref o1, V.ref o2]) no3
        have k3 : upd G2 o3 (.tup [V.ref o1, V.ref o2]) o3 = some (.tup [V.ref o1, V.ref o2]) := upd_same
        generalize upd G2 o3 (.tup [V.ref o1, V.ref o2]) = G3 at r3 k3
        have r13 := r1.trans (r2.trans r3)
        refine ⟨wsD ws, [wsD st43, wsD dn43], dts (same_but (s57.trans r13)), .tup (.inl (.inl k3)) (.cons (ws_dp (l := st43) (r3 _ _ (r2 _ _ k1))) (.cons (ws_dp (l := dn43) (r3 _ _ k2)) .nil)), sw, by decide +kernel, _, rfl, ?_⟩
        have ea : ([wsD st43, wsD dn43].any fun z => PyData.eqv z (wsD ws)) = (decide (st43 = ws) || (decide (dn43 = ws) || false)) := by
          simp only [List.any_cons, List.any_nil, eqv_ws]
        rw [ea]
        by_cases e1 : st43 = ws
        · rw [decide_eq_true e1]
          refine iteF ?_
          exact iteF ⟨rfl, r13⟩
        · by_cases e2 : dn43 = ws
          · rw [decide_eq_false e1, decide_eq_true e2]
            refine iteF ?_
            exact iteF ⟨rfl, r13⟩
          · rw [decide_eq_false e1, decide_eq_false e2]
            refine iteT ⟨by show 2 ≤ sizeLine; decide, fun L nL => ?_⟩
            have r4 := same_upd (o := .lst [V.int 1, V.int 2]) nL
            have k4 : upd G3 L (.lst [V.int 1, V.int 2]) L = some (.lst [V.int 1, V.int 2]) := upd_same
            generalize upd G3 L (.lst [V.int 1, V.int 2]) = G4 at r4 k4
            have r14 := r13.trans r4
            have du4 := du.step (same_but (s57.trans r14))
            obtain ⟨tt, wd, u, a, rfl, htt, hw⟩ := du4.hd1 (fun e => e1 e.symm) (fun e => e2 e.symm)
            have sq : SqT K G4 tt [.str wd, u, a] := .inl (.inl htt)
            rcases hw with ⟨rfl, hd⟩ | ⟨rfl, hd⟩
            · refine ⟨.ref tt, rfl, tt, _, 0, .str "pay", rfl, rfl, sq, atI_nat (j := 0) rfl, rfl, ?_⟩
              rw [decide_eq_false (fun e => absurd (V.str.inj e) (by decide +kernel))]
              refine .inr ⟨false, rfl, L, _, 0, .int 1, rfl, rfl, .inl (.inl k4), atI_nat (j := 0) rfl, .ref b, rfl, .ref tt, rfl, 1, b, bkOf zs D, .ref tt, ws, rfl, bok (b17.trans (same_but r14)), g.ok, g.closed, hd, fun t9 H9 s9 ht9 => ⟨.ref t, rfl, wsD ws, wsD ws, ws_dp ht9, dts (same_but ((s57.trans r14).trans s9)), sw, sw, _, rfl, ?_⟩⟩
              rw [eqv_ws, decide_eq_true rfl]
              exact iteF ⟨rfl, r14.trans s9⟩
            · refine ⟨.ref tt, rfl, tt, _, 0, .str "clear", rfl, rfl, sq, atI_nat (j := 0) rfl, rfl, ?_⟩
              rw [decide_eq_true rfl]
              refine .inr ⟨true, rfl, L, _, 1, .int 2, rfl, rfl, .inl (.inl k4), atI_nat (j := 1) rfl, .ref b, rfl, .ref tt, rfl, 2, b, bkOf zs D, .ref tt, ws, rfl, bok (b17.trans (same_but r14)), g.ok, g.closed, hd, fun t9 H9 s9 ht9 => ⟨.ref t, rfl, wsD ws, wsD ws, ws_dp ht9, dts (same_but ((s57.trans r14).trans s9)), sw, sw, _, rfl, ?_⟩⟩
              rw [eqv_ws, decide_eq_true rfl]
              exact iteF ⟨rfl, r14.trans s9⟩
      obtain ⟨rfl, s8⟩ := hR
      have s58 := s57.trans s8
      have b18 := b17.trans (same_but s8)
      have p8 := p7.same s8
      -- another
      refine ⟨.ref p, rfl, .ref m.m, rfl, p, m, D, zs, rfl, p8, mod b18, g, gb, np, fun v2 H9 p9 b9 _ => ?_⟩
      have b19 := b18.trans b9
      have b59 : But p H5 H9 := (same_but s58).trans b9
      have du9 := du.step b59
      refine ⟨fun σ H' => σ = [some (.ref p), some (.ref m.m), some (.ref b), some (.int (0 + (i : Int))), some v, some (.ref t), some (.ref t6), some v2, y8, none, none] ∧ Same H9 H', ?_, fun σ Ha hR => ?_⟩
      · refine ⟨.ref t, rfl, by show 1 ≤ sizeLine; decide, fun o no => ?_⟩
        have r1 := same_upd (o := .tup [V.str "done"]) no
        have k1 : upd H9 o (.tup [V.str "done"]) o = some (.tup [V.str "done"]) := upd_same
        generalize upd H9 o (.tup [V.str "done"]) = G1 at r1 k1
        refine ⟨wsD ws, wsD dn43, dts (b59.trans (same_but r1)), ws_dp (l := dn43) k1, sw, shaped_ws (by decide +kernel), _, rfl, ?_⟩
        rw [eqv_ws]
        by_cases e : ws = dn43
        · rw [decide_eq_true e]
          refine iteF ?_
          exact iteF ⟨rfl, r1⟩
        · rw [decide_eq_false e]
          refine iteT ⟨.ref b, rfl, v, rfl, v2, rfl, by show 2 ≤ sizeLine; decide, fun l nl => ?_⟩
          have r2 := same_upd (o := .lst [v, v2]) nl
          have k2 : upd G1 l (.lst [v, v2]) l = some (.lst [v, v2]) := upd_same
          generalize upd G1 l (.lst [v, v2]) = G2 at r2 k2
          have r12 := r1.trans r2
          refine ⟨3, b, bkOf zs D, .ref l, ws, rfl, bok (b19.trans (same_but r12)), g.ok, g.closed, (du9.step (same_but r12)).hd3' g e k2, fun t3 H3 s3 ht3 => ⟨.ref t, rfl, wsD ws, wsD ws, ws_dp ht3, dts (b59.trans (same_but (r12.trans s3))), sw, sw, _, rfl, ?_⟩⟩
          rw [eqv_ws, decide_eq_true rfl]
          exact iteF ⟨rfl, r12.trans s3⟩
      obtain ⟨rfl, sa⟩ := hR
      have b1a := b19.trans (same_but sa)
      have b5a := b59.trans (same_but sa)
      -- the good ones
      refine ⟨.ref m.m, rfl, m, D, zs, rfl, mod b1a, g, fun S xs Hb sb nS hS dr => ⟨S, rfl, ⟨_, .inl (.inl hS)⟩, fun G nG => ?_⟩⟩
      have hss : ∀ q ∈ stepsW zs D, q.2 ∈ zs ∧ 0 < mostW zs D q.1 q.2 ∧ (q.1 = "pay" ∨ q.1 = "clear") := fun q hq => steps_mem43 hq
      have lW : (stepsW zs D).length ≤ 24 := by
        have := steps_le zs D zs
        have := nz.n1
        unfold stepsW
        omega
      generalize stepsW zs D = W at dr hss lW
      have lx : xs.length = W.length := by rw [dr.len, List.length_map]
      refine lc_it (walk_list (K := K) (a := S) (xs := xs)) (fun j H' => Same Hb H' ∧ ∃ ys, H' G = some (.lst ys) ∧ StsAt H' ys ((W.take j).map fun q => (q.1, q.2, (1 : Int)))) ⟨same_upd nG, [], upd_same, rfl, fun i x p e _ => by cases e⟩ (fun j H' _ hP => .inl (.inl (hP.1 _ _ hS))) (fun j x Hc' Hc hj hP hY => ?_) (fun Hc hP => ?_)
      · obtain ⟨rfl, hx⟩ := hY
        obtain ⟨sc, ys, hG, st⟩ := hP
        have hjW : j < W.length := by omega
        obtain ⟨x', ex, dx⟩ := DtAll.get (DtAll.same sc _ dr) (n := j) (d := stepW W[j]) (map_get (List.getElem?_eq_getElem hjW))
        rw [hx] at ex
        cases ex
        obtain ⟨a0, us, rfl, sq, da⟩ := Dt.tup_inv (show Dt K Hc x (.tuple [.str W[j].1, .str W[j].2]) from dx)
        cases da with
        | cons d1 dr1 =>
          cases dr1 with
          | cons d2 dr2 =>
            cases d1
            cases d2
            cases dr2
            refine ⟨a0, _, rfl, sq, rfl, _, _, rfl, _, _, rfl, rfl, rfl, _, rfl, _, rfl, by show 3 ≤ sizeLine; decide, fun tt nt => ?_⟩
            have s1 := same_upd (o := .tup [V.str W[j].1, .str W[j].2, .int 1]) nt
            have k1 : upd Hc tt (.tup [V.str W[j].1, .str W[j].2, .int 1]) tt = some (.tup [V.str W[j].1, .str W[j].2, .int 1]) := upd_same
            generalize upd Hc tt (.tup [V.str W[j].1, .str W[j].2, .int 1]) = Hd at s1 k1
            refine ⟨ys, s1 _ _ hG, ?_, fun c o ec => ?_, ys ++ [.ref tt], upd_same, ?_⟩
            · have := st.1
              rw [List.length_map, List.length_take] at this
              exact small1000 (by omega)
            · rw [upd_ne (ne_of_none ec nG)]
              exact s1 _ _ (sc _ _ ec)
            · rw [take_succ hjW, List.map_append]
              have kt : KT Hc (upd Hd G (.lst (ys ++ [.ref tt]))) := fun c o e ht => by
                have ne : c ≠ G := fun z => by
                  rw [z, hG] at e
                  cases e
                  exact ht
                rw [upd_ne ne]
                exact s1 _ _ e
              refine (st.kt kt).app (StsAt.one (p := (W[j].1, W[j].2, (1 : Int))) ?_)
              rw [upd_ne (fun z => by
                have := s1 _ _ hG
                rw [← z, k1] at this
                cases this)]
              exact k1
      obtain ⟨sc, ys, hG, st⟩ := hP
      rw [lx, List.take_length] at st
      have b1c := b1a.trans (same_but (sb.trans sc))
      have b5c := b5a.trans (same_but (sb.trans sc))
      have pc : Pot Hc p := ((p9.same sa).same sb).same sc
      have duc := du.step b5c
      refine ⟨.ref G, rfl, Nat.zero_le _, fun e ne => ?_⟩
      have r1 := same_upd (o := .lst []) ne
      have k1 : upd Hc e (.lst []) e = some (.lst []) := upd_same
      generalize upd Hc e (.lst []) = G1 at r1 k1
      refine ⟨.list (W.map goodD), .list [], .lst (.inl (.inl (r1 _ _ hG))) (sts_dp (st.kt (kt_same r1))), .lst (.inl (.inl k1)) .nil, shaped_goods nz (fun q hq => ⟨(hss q hq).1, (hss q hq).2.2⟩), shaped_nil, _, rfl, ?_⟩
      have fin : ∀ {G2 : Hp}, Same Hc G2 → ∃ z3 z4 z5 z6 z7 z8, [some (.ref p), some (.ref m.m), some (.ref b), some (V.int (0 + (i : Int))), some v, some (.ref t), some (.ref t6), some v2, some (.ref G), none, none] = [some (.ref p), some (.ref m.m), some (.ref b), z3, z4, z5, z6, z7, z8, none, none] ∧ Pot G2 p ∧ But p H1 G2 := fun {G2} s => ⟨_, _, _, _, _, _, rfl, pc.same s, b1c.trans (same_but s)⟩
      cases W with
      | nil =>
        refine iteF ?_
        exact iteF (fin r1)
      | cons q0 qr =>
        refine iteT ⟨.ref t, rfl, by show 1 ≤ sizeLine; decide, fun o no => ?_⟩
        have r2 := same_upd (o := .tup [V.str "step"]) no
        have k2 : upd G1 o (.tup [V.str "step"]) o = some (.tup [V.str "step"]) := upd_same
        generalize upd G1 o (.tup [V.str "step"]) = G2 at r2 k2
        have r12 := r1.trans r2
        refine ⟨wsD ws, wsD st43, dts (b5c.trans (same_but r12)), ws_dp (l := st43) k2, sw, shaped_ws (by decide +kernel), _, rfl, ?_⟩
        rw [eqv_ws]
        by_cases e : ws = st43
        · rw [decide_eq_true e]
          obtain ⟨y0, hy0⟩ : ∃ y0, ys[0]? = some y0 := ⟨_, List.getElem?_eq_getElem (by have := st.1; rw [this]; simp)⟩
          obtain ⟨t0, rfl, ht0⟩ := st.2 0 y0 _ hy0 rfl
          obtain ⟨hz0, hp0, hw0⟩ := hss q0 List.mem_cons_self
          obtain ⟨r0, cd⟩ := (mostW_can g gb hz0 hw0 hp0).2 1 (Int.le_refl _) (by omega)
          refine iteT ⟨.ref b, rfl, .ref G, rfl, G, ys, 0, .ref t0, rfl, rfl, .inl (.inl (r12 _ _ hG)), atI_nat (j := 0) hy0, v, rfl, by show 2 ≤ sizeLine; decide, fun l nl => ?_⟩
          have r3 := same_upd (o := .lst [.ref t0, v]) nl
          have k3 : upd G2 l (.lst [.ref t0, v]) l = some (.lst [.ref t0, v]) := upd_same
          generalize upd G2 l (.lst [.ref t0, v]) = G3 at r3 k3
          have r13 := r12.trans r3
          refine ⟨3, b, bkOf zs D, .ref l, ws, rfl, bok (b1c.trans (same_but r13)), g.ok, g.closed, (duc.step (same_but r13)).hdG e cd (r13 _ _ ht0) k3, fun t3 H3' s3 ht3 => ⟨.ref t, rfl, wsD ws, wsD ws, ws_dp ht3, dts (b5c.trans (same_but (r13.trans s3))), sw, sw, _, rfl, ?_⟩⟩
          rw [eqv_ws, decide_eq_true rfl]
          exact iteF (fin (r13.trans s3))
        · rw [decide_eq_false e]
          refine iteF ?_
          exact iteF (fin r12)
    · obtain ⟨y3, y4, y5, y6, y7, y8, rfl, p3, b3⟩ := hP
      refine ⟨.ref m.m, rfl, .ref b, rfl, m, D, zs, b, rfl, model_but hM b3 p1 np, hb.keep (b3.kpP p1), g, gb, fun H4 s4 => ?_⟩
      exact q H4 (b1.trans (b3.trans (same_but s4)))
end
end Rc

namespace Rc
open PySem PySem.Spec PyProof.Rows L2 RZ
section
variable {P : Program} {w : World} {K : PySem.W.Frag} {mg : Str → Option Value} {base : Heap}
/-! ### law -/
abbrev sLaw : Stmt := topS 74
abbrev nLaw : List Str := ["_law_script", "_law_k"]
theorem scLaw : FnScope nLaw ["_law_script"] (defScope sLaw) := ⟨rfl, rfl, rfl, by decide +kernel, rfl, by decide +kernel, by decide +kernel⟩
def spLaw (K : PySem.W.Frag) : Sp := fun vs H Q _ => ∃ (a : Addr) (ns : List Int), vs = [.ref a] ∧ SqL K H a (ns.map V.int) ∧ ns.length ≤ 63 ∧ ∀ H', Q (.bl true) H'
theorem ok_law {f fP fR : Addr} {fd fdP fdR : FuncData} (F : Fun K "law" "law" sLaw f fd) (B : Blt mg) (B2 : Blt2 mg)
    (LP : Has P w K mg base 3 "_law_pot" ["_law_script", "_law_k"] (spPot K) fP fdP) (RT : HasG P w K mg base 13 "_law_right" ["_law_pot_here"] spLRt fR fdR) : FnG P w K mg base CX0 (13 + 1) f fd ["_law_script"] (spLaw K) := by
  refine okG0 F scLaw (fun vs H Q E h => ?_) (fun cdv A outer s H vs Q E hr hg h => ?_)
  · obtain ⟨a, d, rfl, _⟩ := h
    rfl
  · obtain ⟨a, ns, rfl, hS, hlen, q⟩ := h
    have hr3 := hr.mono (show 3 ≤ 13 by decide)
    refine ⟨_, pss_cons (ps_for PassesOwn.never rfl (pi_range1 (by rfl) B2.range (pa_cons (pe_callB (call_max2 rfl) (by rfl) B2.max (by decide +kernel) (pa_cons pe_int (pa_cons (pe_callB (call_min2 rfl) (by rfl) B2.min (by decide +kernel)
          (pa_cons (pe_callB call_len_seq (by rfl) B.len PySem.boot_len (pa_cons (pv 0) pa_nil)) (pa_cons pe_int pa_nil))) pa_nil))) pa_nil)) (pg_name (i := 1) scLaw.nd rfl (.inl rfl))
        (pss_one (ps_if (pt_not (pt_val (pe_callG RT.ok hr hg (by rfl) RT.g RT.kp RT.b .nil pass0 (pa_cons (pe_call LP.ok hr3 (by rfl) LP.g LP.kp LP.b .nil pass0 (pa_cons (pv 0) (pa_cons (pv 1) pa_nil))) pa_nil)))) (pss_one (ps_ret pe_bl)) pss_nil)))
      (pss_one (ps_ret pe_bl)), ?_⟩
    refine ⟨.ref a, rfl, a, _, rfl, .inl hS, _, _, rfl, _, _, rfl, ?_⟩
    have nb : ∃ n : Nat, n ≤ 63 ∧ (if (if (5 : Int) < ((ns.map V.int).length : Int) then (5 : Int) else ((ns.map V.int).length : Int)) > 1 then (if (5 : Int) < ((ns.map V.int).length : Int) then (5 : Int) else ((ns.map V.int).length : Int)) else 1) = (n : Int) := by
      rw [List.length_map]
      refine ⟨(if (if (5 : Int) < (ns.length : Int) then (5 : Int) else (ns.length : Int)) > 1 then (if (5 : Int) < (ns.length : Int) then (5 : Int) else (ns.length : Int)) else 1).toNat, ?_, ?_⟩ <;> (split <;> split <;> omega)
    obtain ⟨n, hn, en⟩ := nb
    refine ⟨_, congrArg (fun z => [V.int z]) en, by omega, by omega, ?_⟩
    refine for_it walk_range (fun i σ H' => ∃ y1, σ = [some (.ref a), y1] ∧ Same H H') ⟨_, rfl, Same.refl _⟩ (fun _ _ _ _ _ => trivial) (fun i x σ H1' H1 hi hP hY => ?_) (fun σ H1 hP => ?_)
    · obtain ⟨rfl, rfl⟩ := hY
      obtain ⟨y1, rfl, s1⟩ := hP
      have hi' : i < n := by simpa using hi
      refine ⟨.ref a, rfl, .int (0 + i), rfl, a, ns, _, rfl, s1.seq hS, by omega, by omega, fun p o np hp => ?_⟩
      refine ⟨p, rfl, hp, fun H2 bt2 => ⟨_, rfl, iteF ⟨_, rfl, fun c u e => ?_⟩⟩⟩
      have e1 := s1 c u e
      exact bt2 _ _ (ne_of_none e1 np) (same_upd np _ _ e1)
    · exact q _
end
end Rc

namespace Rc
open PySem PySem.Spec PyProof.Rows L2
theorem all1 {p : Str → Prop} {a : Str} (h : p a) : ∀ f ∈ [a], p f := fun f hf => by rw [List.mem_singleton.mp hf]; exact h
theorem all2 {p : Str → Prop} {a b : Str} (h : p a) (h' : p b) : ∀ f ∈ [a, b], p f := fun f hf => by
  rcases List.mem_cons.mp hf with e | e
  · rw [e]; exact h
  · rw [List.mem_singleton.mp e]; exact h'
/-- the top's facts of an own exception class -/
theorem mkCx {P : Program} {K : PySem.W.Frag} {h : Heap} {mg : Str → Option Value} {nm : Str} {st : Stmt} {fs : List Str} {B newId initId : String} {bmB : List Value} {C : Addr} (X : K.In h) (G : h.Ns mainGlobals mg)
    {fI : Addr} {oc : Value} {od : Option Addr} {qual : Str} {doc pm : Value} {an : Option Addr} {cda : Addr} {ct : Value} {cc : Addr} {osl : Array (Option Value)} {cl : Value} {cld : Option Addr} {csl : Array (Option Value)} {ccl : Value} {cdd : Option Addr} {vs : Array Value} {ccs : Array (Option Value)} {file : Str} {tf : Tok}
    (a : PySem.W.nsIn K mainGlobals nm = some (some (.ref C))) (a1 : PySem.W.excInitIn K C bmB newId = true) (a2 : PySem.W.excOver K C bmB = true) (a3 : PySem.W.hasDictIn K C = true)
    (a4 : PySem.W.findIn K (.ref C) "__setattr__" = some (some (.builtin "object.__setattr__"))) (a5 : PySem.W.findIn K (.ref C) "__getattribute__" = some (some (.builtin "BaseException.__getattribute__"))) (a6 : PySem.W.findIn K (.ref C) "__getattr__" = some none)
    (a7 : ∀ f ∈ fs, PySem.W.findIn K (.ref C) f = some none) (a8 : PySem.W.keepIn K (.ref C) = true) (a9 : PySem.W.subIn K (.ref C) (.type "BaseException") = some true) (b1 : PySem.W.typeIn K (.ref C) = some (.type "type")) (b2 : PySem.W.subIn K (.ref C) (.type B) = some true)
    (b3 : PySem.W.mroIn K C (.ref C) = some true) (b4 : PySem.W.nsIn K cStatics "thirdparty.any" = some none) (b5 : PySem.W.ks_superIn K C C "__init__" = some (some (.builtin initId))) (b6 : PySem.W.nsIn K mainGlobals "super" = some none) (b7 : (P.main.scope.names.lookup ("super" : Str)).isSome = false)
    (i1 : PySem.W.findIn K (.ref C) "__init__" = some (some (.ref fI))) (i2 : PySem.W.typeIn K (.ref fI) = some (.type "function"))
    (i3 : K.lookup fI = some ⟨oc, od, .func (PySem.W.ksFn "__init__" qual (defArgs st) (defBody st) (defScope st) .none .none doc pm an (.ref cda) ct cc), osl⟩) (i4 : PySem.W.codeIn K (.ref cda) qual = true)
    (i5 : K.lookup cc = some ⟨cl, cld, .cell (some (.ref C)), csl⟩) (i6 : K.lookup cda = some ⟨ccl, cdd, .fields vs, ccs⟩) (i7 : vs[2]? = some (.str file tf)) (i8 : ((P.main.file : Str) == file) = true) : EX.Cx' P K mg nm st fs B newId initId bmB C :=
  ⟨PySem.W.mg_of X G a, a1, a2, a3, a4, a5, a6, a7, a8, a9, b1, b2, b3, b4, b5, PySem.W.mg_none_of X G b6, b7, fI, oc, od, qual, doc, pm, an, cda, ct, cc, osl, i1, i2, i3, i4, ⟨_, _, _, i5⟩, _, _, _, _, _, _, i6, i7, i8⟩
theorem mkClsB {K : PySem.W.Frag} {h : Heap} {mg : Str → Option Value} {CB CN : Addr} (X : K.In h) (G : h.Ns mainGlobals mg) (a : PySem.W.nsIn K mainGlobals "BookError" = some (some (.ref CB))) (a1 : PySem.W.subIn K (.ref CB) (.type "BaseException") = some true) (a2 : PySem.W.hasDictIn K CB = true)
    (a3 : PySem.W.typeIn K (.ref CB) = some (.type "type")) (a4 : PySem.W.subIn K (.ref CN) (.ref CB) = some false) (a5 : PySem.W.subIn K (.ref CN) (.ref CN) = some true) (a6 : PySem.W.kitOne K (.ref CN) (.ref CB) = some false) (a7 : PySem.W.kitOne K (.ref CN) (.type "LookupError") = some true)
    (a8 : PySem.W.nsIn K mainGlobals "LookupError" = some none) (a9 : PySem.W.findIn K (.ref CN) "__class__" = some (some (.builtin "object.__class__"))) (b1 : PySem.W.specialIn K (.builtin "object.__class__") "__get__" = some (some (.builtin "getset_descriptor.__get__")))
    (b2 : PySem.W.takesIn K (.builtin "object.__class__") = some true) (b3 : PySem.W.mroIn K CN (.type "object") = some true) : ClsB K mg CB CN :=
  ⟨PySem.W.mg_of X G a, a1, a2, a3, a4, a5, a6, a7, PySem.W.mg_none_of X G a8, a9, b1, b2, b3⟩
end Rc

namespace Rc
open PySem PySem.Spec PyProof.Rows L2
/-- a def of the text, by its name -/
def DefOf {K : PySem.W.Frag} {h : Heap} (_ : K.In h) (mg : Str → Option Value) (nm : Str) (st : Stmt) : Prop := ∃ f fd, Fun K nm nm st f fd ∧ mg nm = some (.ref f)
theorem mkDef {K : PySem.W.Frag} {h : Heap} {mg : Str → Option Value} (X : K.In h) (G : h.Ns mainGlobals mg) {nm : Str} {st : Stmt} {f : Addr} {oc : Value} {od an : Option Addr} {osl : Array (Option Value)} {kV doc pm cdv ct : Value}
    (a : PySem.W.nsIn K mainGlobals nm = some (some (.ref f)))
    (l : K.lookup f = some ⟨oc, od, .func (PySem.W.fnOf nm nm (defArgs st) (defBody st) (defScope st) .none kV doc pm an cdv ct), osl⟩)
    (c : PySem.W.codeIn K cdv nm = true) (k : PySem.W.keepIn K (.ref f) = true) : DefOf X mg nm st := ⟨f, _, fun_mk l c k, PySem.W.mg_of X G a⟩
/-- a method of the class C -/
def MethOf (K : PySem.W.Frag) (C : Addr) (nm qual : Str) (st : Stmt) : Prop := ∃ f fd, Fun K nm qual st f fd ∧ Meth K C nm f
theorem mkMeth {K : PySem.W.Frag} {C : Addr} {nm qual : Str} {st : Stmt} {f : Addr} {oc : Value} {od an : Option Addr} {osl : Array (Option Value)} {kV doc pm cdv ct : Value}
    (a : PySem.W.findIn K (.ref C) nm = some (some (.ref f))) (i : PySem.W.isFn K (.ref f) = true)
    (l : K.lookup f = some ⟨oc, od, .func (PySem.W.fnOf nm qual (defArgs st) (defBody st) (defScope st) .none kV doc pm an cdv ct), osl⟩)
    (c : PySem.W.codeIn K cdv qual = true) (k : PySem.W.keepIn K (.ref f) = true) : MethOf K C nm qual st := ⟨f, _, fun_mk l c k, a, i, k⟩
structure TopB (K : PySem.W.Frag) (mg : Str → Option Value) (C : Addr) : Prop where
  T : ClsF K C
  g : mg "Book" = some (.ref C)
  makes : PySem.W.makesIn K C = true
  kp : PySem.W.keepIn K (.ref C) = true
theorem mkTop {K : PySem.W.Frag} {h : Heap} {mg : Str → Option Value} {C : Addr} (X : K.In h) (G : h.Ns mainGlobals mg) (a : PySem.W.nsIn K mainGlobals "Book" = some (some (.ref C)))
    (pg : PySem.W.plainGet K C Str.empty = true) (hd : PySem.W.hasDictIn K C = true) (po : PySem.W.plainOver K C = true) (sa : PySem.W.findIn K (.ref C) "__setattr__" = some (some (.builtin "object.__setattr__"))) (mk : PySem.W.makesIn K C = true) (kc : PySem.W.keepIn K (.ref C) = true)
    (n1 : PySem.W.findIn K (.ref C) "names" = some none) (n2 : PySem.W.findIn K (.ref C) "gifts" = some none) (n3 : PySem.W.findIn K (.ref C) "stacks" = some none) (n4 : PySem.W.findIn K (.ref C) "drops" = some none) : TopB K mg C :=
  ⟨⟨⟨pg, hd, po, sa⟩, n1, n2, n3, n4⟩, PySem.W.mg_of X G a, mk, kc⟩
def ConOf (mg : Str → Option Value) (nm : Str) (v : V) : Prop := ∃ u, mg nm = some u ∧ RelV v u
theorem con_of {K : PySem.W.Frag} {h : Heap} {mg : Str → Option Value} (X : K.In h) (G : h.Ns mainGlobals mg) {nm : Str} {v : V} {u : Value} (a : PySem.W.nsIn K mainGlobals nm = some (some u)) (r : RelV v u) : ConOf mg nm v := ⟨u, PySem.W.mg_of X G a, r⟩
section
variable {K : PySem.W.Frag} {nm q x y z u4 : Str} {st : Stmt} {f : Addr} {fd : FuncData}
theorem bind1 (F : Fun K nm q st f fd)
    (h : ∀ (kV doc pm : Value) (an : Option Addr) (cdv ct v : Value), bindArgs (PySem.W.fnOf nm q (defArgs st) (defBody st) (defScope st) .none kV doc pm an cdv ct) ⟨[v], []⟩ = pure [(x, v)]) : Binds K fd [x] [] :=
  F.binds (ps := [x]) fun kV doc pm an cdv ct us hl => match us, hl with | [v], _ => h kV doc pm an cdv ct v
theorem bind2 (F : Fun K nm q st f fd)
    (h : ∀ (kV doc pm : Value) (an : Option Addr) (cdv ct u v : Value), bindArgs (PySem.W.fnOf nm q (defArgs st) (defBody st) (defScope st) .none kV doc pm an cdv ct) ⟨[u, v], []⟩ = pure [(x, u), (y, v)]) : Binds K fd [x, y] [] :=
  F.binds (ps := [x, y]) fun kV doc pm an cdv ct us hl => match us, hl with | [u, v], _ => h kV doc pm an cdv ct u v
theorem bind3 (F : Fun K nm q st f fd)
    (h : ∀ (kV doc pm : Value) (an : Option Addr) (cdv ct u v w : Value), bindArgs (PySem.W.fnOf nm q (defArgs st) (defBody st) (defScope st) .none kV doc pm an cdv ct) ⟨[u, v, w], []⟩ = pure [(x, u), (y, v), (z, w)]) : Binds K fd [x, y, z] [] :=
  F.binds (ps := [x, y, z]) fun kV doc pm an cdv ct us hl => match us, hl with | [u, v, w], _ => h kV doc pm an cdv ct u v w
theorem bind4 (F : Fun K nm q st f fd)
    (h : ∀ (kV doc pm : Value) (an : Option Addr) (cdv ct u v w t : Value), bindArgs (PySem.W.fnOf nm q (defArgs st) (defBody st) (defScope st) .none kV doc pm an cdv ct) ⟨[u, v, w, t], []⟩ = pure [(x, u), (y, v), (z, w), (u4, t)]) : Binds K fd [x, y, z, u4] [] :=
  F.binds (ps := [x, y, z, u4]) fun kV doc pm an cdv ct us hl => match us, hl with | [u, v, w, t], _ => h kV doc pm an cdv ct u v w t
end
section
variable {P : Program} {w : World} {K : PySem.W.Frag} {mg : Str → Option Value} {base : Heap} {C f : Addr} {fd : FuncData} {k : Nat} {nm : Str} {ps : List Str} {sp : Sp} {st : Stmt}
end
end Rc

namespace Rc
open PySem PySem.Spec PyProof.Rows L2 RZ
/-- the classes of what steps refuse -/
structure C43 (P : Program) (K : PySem.W.Frag) (mg : Str → Option Value) (X : Xs) (BE : Addr) : Prop where
  S : ClsP K mg "NoStep" X.S BE
  N : ClsN P K mg X.N
  A : ∃ BA, ClsP K mg "NoAmount" X.A BA
  R : ClsR P K mg X.R
  T : ClsT P K mg X.T
  x : X43 K mg X BE
theorem mkC43 {P : Program} {K : PySem.W.Frag} {mg : Str → Option Value} {xS xN xA xR xT BE BA : Addr} (pS : ClsP K mg "NoStep" xS BE) (pN : ClsN P K mg xN) (pA : ClsP K mg "NoAmount" xA BA) (pR : ClsR P K mg xR) (pT : ClsT P K mg xT) (clN : PySem.W.findIn K (.ref xN) "__class__" = some (some (.builtin "object.__class__"))) (obN : PySem.W.mroIn K xN (.type "object") = some true) (clR : PySem.W.findIn K (.ref xR) "__class__" = some (some (.builtin "object.__class__"))) (obR : PySem.W.mroIn K xR (.type "object") = some true) (clT : PySem.W.findIn K (.ref xT) "__class__" = some (some (.builtin "object.__class__"))) (obT : PySem.W.mroIn K xT (.type "object") = some true) (whS : PySem.W.findIn K (.ref xS) "who" = some none) (moS : PySem.W.findIn K (.ref xS) "most" = some none) (whN : PySem.W.findIn K (.ref xN) "who" = some none) (moN : PySem.W.findIn K (.ref xN) "most" = some none) (whA : PySem.W.findIn K (.ref xA) "who" = some none) (moA : PySem.W.findIn K (.ref xA) "most" = some none) (whR : PySem.W.findIn K (.ref xR) "who" = some none) (moR : PySem.W.findIn K (.ref xR) "most" = some none) (whT : PySem.W.findIn K (.ref xT) "who" = some none) (moT : PySem.W.findIn K (.ref xT) "most" = some none) (s00 : PySem.W.subIn K (.ref xS) (.ref xS) = some true) (s01 : PySem.W.subIn K (.ref xS) (.ref xN) = some false) (s02 : PySem.W.subIn K (.ref xS) (.ref xA) = some false) (s03 : PySem.W.subIn K (.ref xS) (.ref xR) = some false) (s04 : PySem.W.subIn K (.ref xS) (.ref xT) = some false) (s10 : PySem.W.subIn K (.ref xN) (.ref xS) = some false) (s11 : PySem.W.subIn K (.ref xN) (.ref xN) = some true) (s12 : PySem.W.subIn K (.ref xN) (.ref xA) = some false) (s13 : PySem.W.subIn K (.ref xN) (.ref xR) = some false) (s14 : PySem.W.subIn K (.ref xN) (.ref xT) = some false) (s20 : PySem.W.subIn K (.ref xA) (.ref xS) = some false) (s21 : PySem.W.subIn K (.ref xA) (.ref xN) = some false) (s22 : PySem.W.subIn K (.ref xA) (.ref xA) = some true) (s23 : PySem.W.subIn K (.ref xA) (.ref xR) = some false) (s24 : PySem.W.subIn K (.ref xA) (.ref xT) = some false) (s30 : PySem.W.subIn K (.ref xR) (.ref xS) = some false) (s31 : PySem.W.subIn K (.ref xR) (.ref xN) = some false) (s32 : PySem.W.subIn K (.ref xR) (.ref xA) = some false) (s33 : PySem.W.subIn K (.ref xR) (.ref xR) = some true) (s34 : PySem.W.subIn K (.ref xR) (.ref xT) = some false) (s40 : PySem.W.subIn K (.ref xT) (.ref xS) = some false) (s41 : PySem.W.subIn K (.ref xT) (.ref xN) = some false) (s42 : PySem.W.subIn K (.ref xT) (.ref xA) = some false) (s43 : PySem.W.subIn K (.ref xT) (.ref xR) = some false) (s44 : PySem.W.subIn K (.ref xT) (.ref xT) = some true) (k00 : PySem.W.kitOne K (.ref xS) (.ref xS) = some true) (k01 : PySem.W.kitOne K (.ref xS) (.ref xN) = some false) (k02 : PySem.W.kitOne K (.ref xS) (.ref xA) = some false) (k03 : PySem.W.kitOne K (.ref xS) (.ref xR) = some false) (k04 : PySem.W.kitOne K (.ref xS) (.ref xT) = some false) (k05 : PySem.W.kitOne K (.ref xS) (.ref BE) = some true) (k10 : PySem.W.kitOne K (.ref xN) (.ref xS) = some false) (k11 : PySem.W.kitOne K (.ref xN) (.ref xN) = some true) (k12 : PySem.W.kitOne K (.ref xN) (.ref xA) = some false) (k13 : PySem.W.kitOne K (.ref xN) (.ref xR) = some false) (k14 : PySem.W.kitOne K (.ref xN) (.ref xT) = some false) (k15 : PySem.W.kitOne K (.ref xN) (.ref BE) = some false) (k20 : PySem.W.kitOne K (.ref xA) (.ref xS) = some false) (k21 : PySem.W.kitOne K (.ref xA) (.ref xN) = some false) (k22 : PySem.W.kitOne K (.ref xA) (.ref xA) = some true) (k23 : PySem.W.kitOne K (.ref xA) (.ref xR) = some false) (k24 : PySem.W.kitOne K (.ref xA) (.ref xT) = some false) (k25 : PySem.W.kitOne K (.ref xA) (.ref BE) = some true) (k30 : PySem.W.kitOne K (.ref xR) (.ref xS) = some false) (k31 : PySem.W.kitOne K (.ref xR) (.ref xN) = some false) (k32 : PySem.W.kitOne K (.ref xR) (.ref xA) = some false) (k33 : PySem.W.kitOne K (.ref xR) (.ref xR) = some true) (k34 : PySem.W.kitOne K (.ref xR) (.ref xT) = some false) (k35 : PySem.W.kitOne K (.ref xR) (.ref BE) = some false) (k40 : PySem.W.kitOne K (.ref xT) (.ref xS) = some false) (k41 : PySem.W.kitOne K (.ref xT) (.ref xN) = some false) (k42 : PySem.W.kitOne K (.ref xT) (.ref xA) = some false) (k43 : PySem.W.kitOne K (.ref xT) (.ref xR) = some false) (k44 : PySem.W.kitOne K (.ref xT) (.ref xT) = some true) (k45 : PySem.W.kitOne K (.ref xT) (.ref BE) = some false) : ∃ (X : Xs) (BE : Addr), C43 P K mg X BE := by
  refine ⟨⟨xS, xN, xA, xR, xT, xN⟩, BE, pS, pN, ⟨_, pA⟩, pR, pT, ⟨pS.gP, pN.gC, pA.gP, pR.gC, pT.gC, pS.gB, fun i hi => ?_, fun i j hi hj => ?_, fun i j hi hj => ?_⟩⟩
  · match i, hi with
    | 0, _ => exact ⟨pS.exc, ⟨pS.ga, pS.gg, pS.bP, pS.hd⟩, whS, moS⟩
    | 1, _ => exact ⟨⟨pN.ga, pN.gg, pN.exC, pN.hd, clN, pS.sp, pS.tk, obN⟩, ⟨pN.ga, pN.gg, pN.exC, pN.hd⟩, whN, moN⟩
    | 2, _ => exact ⟨pA.exc, ⟨pA.ga, pA.gg, pA.bP, pA.hd⟩, whA, moA⟩
    | 3, _ => exact ⟨⟨pR.ga, pR.gg, pR.exC, pR.hd, clR, pS.sp, pS.tk, obR⟩, ⟨pR.ga, pR.gg, pR.exC, pR.hd⟩, whR, moR⟩
    | 4, _ => exact ⟨⟨pT.ga, pT.gg, pT.exC, pT.hd, clT, pS.sp, pS.tk, obT⟩, ⟨pT.ga, pT.gg, pT.exC, pT.hd⟩, whT, moT⟩
  · match i, hi, j, hj with
    | 0, _, 0, _ => exact k00
    | 0, _, 1, _ => exact k01
    | 0, _, 2, _ => exact k02
    | 0, _, 3, _ => exact k03
    | 0, _, 4, _ => exact k04
    | 0, _, 5, _ => exact k05
    | 1, _, 0, _ => exact k10
    | 1, _, 1, _ => exact k11
    | 1, _, 2, _ => exact k12
    | 1, _, 3, _ => exact k13
    | 1, _, 4, _ => exact k14
    | 1, _, 5, _ => exact k15
    | 2, _, 0, _ => exact k20
    | 2, _, 1, _ => exact k21
    | 2, _, 2, _ => exact k22
    | 2, _, 3, _ => exact k23
    | 2, _, 4, _ => exact k24
    | 2, _, 5, _ => exact k25
    | 3, _, 0, _ => exact k30
    | 3, _, 1, _ => exact k31
    | 3, _, 2, _ => exact k32
    | 3, _, 3, _ => exact k33
    | 3, _, 4, _ => exact k34
    | 3, _, 5, _ => exact k35
    | 4, _, 0, _ => exact k40
    | 4, _, 1, _ => exact k41
    | 4, _, 2, _ => exact k42
    | 4, _, 3, _ => exact k43
    | 4, _, 4, _ => exact k44
    | 4, _, 5, _ => exact k45
  · match i, hi, j, hj with
    | 0, _, 0, _ => exact PySem.W.exm_ref pS.bP pS.hd pS.tP s00
    | 0, _, 1, _ => exact PySem.W.exm_ref pN.exC pN.hd pN.tyC s01
    | 0, _, 2, _ => exact PySem.W.exm_ref pA.bP pA.hd pA.tP s02
    | 0, _, 3, _ => exact PySem.W.exm_ref pR.exC pR.hd pR.tyC s03
    | 0, _, 4, _ => exact PySem.W.exm_ref pT.exC pT.hd pT.tyC s04
    | 1, _, 0, _ => exact PySem.W.exm_ref pS.bP pS.hd pS.tP s10
    | 1, _, 1, _ => exact PySem.W.exm_ref pN.exC pN.hd pN.tyC s11
    | 1, _, 2, _ => exact PySem.W.exm_ref pA.bP pA.hd pA.tP s12
    | 1, _, 3, _ => exact PySem.W.exm_ref pR.exC pR.hd pR.tyC s13
    | 1, _, 4, _ => exact PySem.W.exm_ref pT.exC pT.hd pT.tyC s14
    | 2, _, 0, _ => exact PySem.W.exm_ref pS.bP pS.hd pS.tP s20
    | 2, _, 1, _ => exact PySem.W.exm_ref pN.exC pN.hd pN.tyC s21
    | 2, _, 2, _ => exact PySem.W.exm_ref pA.bP pA.hd pA.tP s22
    | 2, _, 3, _ => exact PySem.W.exm_ref pR.exC pR.hd pR.tyC s23
    | 2, _, 4, _ => exact PySem.W.exm_ref pT.exC pT.hd pT.tyC s24
    | 3, _, 0, _ => exact PySem.W.exm_ref pS.bP pS.hd pS.tP s30
    | 3, _, 1, _ => exact PySem.W.exm_ref pN.exC pN.hd pN.tyC s31
    | 3, _, 2, _ => exact PySem.W.exm_ref pA.bP pA.hd pA.tP s32
    | 3, _, 3, _ => exact PySem.W.exm_ref pR.exC pR.hd pR.tyC s33
    | 3, _, 4, _ => exact PySem.W.exm_ref pT.exC pT.hd pT.tyC s34
    | 4, _, 0, _ => exact PySem.W.exm_ref pS.bP pS.hd pS.tP s40
    | 4, _, 1, _ => exact PySem.W.exm_ref pN.exC pN.hd pN.tyC s41
    | 4, _, 2, _ => exact PySem.W.exm_ref pA.bP pA.hd pA.tP s42
    | 4, _, 3, _ => exact PySem.W.exm_ref pR.exC pR.hd pR.tyC s43
    | 4, _, 4, _ => exact PySem.W.exm_ref pT.exC pT.hd pT.tyC s44
/-- a table of two defs, by their names, and two words that it does not have -/
def TabNOf {K : PySem.W.Frag} {h : Heap} (_ : K.In h) (w : World) (mg : Str → Option Value) (nm np nc : Str) (nos : List Str) : Prop := ∃ fp fc, TabN K w mg nm fp fc nos ∧ mg np = some (.ref fp) ∧ mg nc = some (.ref fc)
theorem mkTabN2 {K : PySem.W.Frag} {h : Heap} {mg : Str → Option Value} {w : World} (X : K.In h) (G : h.Ns mainGlobals mg) {nm np nc n1 n2 : Str} {d fp fc : Addr} {es : Array DictEntry} {n : Nat}
    (a : PySem.W.nsIn K mainGlobals nm = some (some (.ref d))) (l : K.lookup d = some ⟨.type "dict", none, .dict es n, #[]⟩) (k : PySem.W.KeysLit w.params es.toList) (low : (d == sysModules) = false)
    (p1 : PySem.W.nsIn K d "pay" = some (some (.ref fp))) (c1 : PySem.W.nsIn K d "clear" = some (some (.ref fc))) (p2 : PySem.W.nsIn K mainGlobals np = some (some (.ref fp))) (c2 : PySem.W.nsIn K mainGlobals nc = some (some (.ref fc)))
    (m1 : PySem.W.nsIn K d n1 = some none) (m2 : PySem.W.nsIn K d n2 = some none) : TabNOf X w mg nm np nc [n1, n2] :=
  ⟨fp, fc, ⟨d, es, n, PySem.W.mg_of X G a, ⟨l, k, low⟩, p1, c1, fun x hx => by
    rcases List.mem_cons.mp hx with rfl | hx
    · exact m1
    · rw [List.mem_singleton.mp hx]
      exact m2⟩, PySem.W.mg_of X G p2, PySem.W.mg_of X G c2⟩
end Rc

namespace Rc
open PySem PySem.Spec PyProof.Rows L2
set_option maxHeartbeats 0 in
theorem all_mk {l : PySem.W.OpenLaw} {w : World} {K : PySem.W.Frag} {h : Heap} {mg : Str → Option Value} {fa C : Addr} (X : K.In h)
    (hfa : mg "law" = some (.ref fa))
    (TC : TopB K mg C)
    (d_is_name : DefOf X mg "is_name" (topS 14))
    (d_is_whole : DefOf X mg "is_whole" (topS 15))
    (d_is_amount : DefOf X mg "is_amount" (topS 16))
    (d_check_persons : DefOf X mg "check_persons" (topS 20))
    (d_check_amount : DefOf X mg "check_amount" (topS 21))
    (d_split_notes : DefOf X mg "split_notes" (topS 22))
    (d_with_changed : DefOf X mg "with_changed" (topS 23))
    (d_due_of : DefOf X mg "due_of" (topS 26))
    (d_all_dues : DefOf X mg "all_dues" (topS 27))
    (d_trail_by : DefOf X mg "trail_by" (topS 28))
    (d_ring_by : DefOf X mg "ring_by" (topS 29))
    (d_check_person : DefOf X mg "check_person" (topS 30))
    (d_ring_of : DefOf X mg "ring_of" (topS 31))
    (d_most_to_pay : DefOf X mg "most_to_pay" (topS 33))
    (d_least_due : DefOf X mg "least_due" (topS 34))
    (d_most_to_clear : DefOf X mg "most_to_clear" (topS 35))
    (d_pay_on : DefOf X mg "pay_on" (topS 38))
    (d_clear_ring : DefOf X mg "clear_ring" (topS 39))
    (d_is_step : DefOf X mg "is_step" (topS 41))
    (d_stepped : DefOf X mg "stepped" (topS 42))
    (d_by_weaving : DefOf X mg "by_weaving" (topS 43))
    (d_l_pot : DefOf X mg "_law_pot" (topS 45))
    (d_l_take : DefOf X mg "_law_take" (topS 46))
    (d_l_name : DefOf X mg "_law_name" (topS 47))
    (d_l_names : DefOf X mg "_law_names" (topS 48))
    (d_l_among : DefOf X mg "_law_among" (topS 49))
    (d_l_amount : DefOf X mg "_law_amount" (topS 50))
    (d_l_model : DefOf X mg "_law_model" (topS 51))
    (d_l_parted : DefOf X mg "_law_parted" (topS 52))
    (d_l_left : DefOf X mg "_law_left" (topS 53))
    (d_l_cash : DefOf X mg "_law_cash" (topS 54))
    (d_l_next : DefOf X mg "_law_next" (topS 55))
    (d_l_trail : DefOf X mg "_law_trail" (topS 56))
    (d_l_ring : DefOf X mg "_law_ring" (topS 57))
    (d_l_deeds : DefOf X mg "_law_deeds" (topS 58))
    (d_l_done : DefOf X mg "_law_done" (topS 59))
    (d_l_booked : DefOf X mg "_law_booked" (topS 60))
    (d_l_alike : DefOf X mg "_law_alike" (topS 61))
    (d_l_drawn : DefOf X mg "_law_drawn" (topS 62))
    (d_l_most : DefOf X mg "_law_most" (topS 63))
    (d_l_steps : DefOf X mg "_law_steps" (topS 65))
    (d_l_word : DefOf X mg "_law_word" (topS 66))
    (d_l_heard : DefOf X mg "_law_heard" (topS 67))
    (d_l_most_heard : DefOf X mg "_law_most_heard" (topS 68))
    (d_l_is_whole : DefOf X mg "_law_is_whole" (topS 69))
    (d_l_due : DefOf X mg "_law_due" (topS 70))
    (d_l_spoilt : DefOf X mg "_law_spoilt" (topS 71))
    (d_l_names_right : DefOf X mg "_law_names_right" (topS 72))
    (d_l_right : DefOf X mg "_law_right" (topS 73))
    (d_law : DefOf X mg "law" (topS 74))
    (m_init : MethOf K C "__init__" "Book.__init__" (inBook 0))
    (m_with_these : MethOf K C "with_these" "Book.with_these" (inBook 1))
    (m_has : MethOf K C "has" "Book.has" (inBook 4))
    (m_place_of : MethOf K C "place_of" "Book.place_of" (inBook 2))
    (m_persons : MethOf K C "persons" "Book.persons" (inBook 3))
    (m_given : MethOf K C "given" "Book.given" (inBook 5))
    (m_fallen : MethOf K C "fallen" "Book.fallen" (inBook 6))
    (m_notes : MethOf K C "notes" "Book.notes" (inBook 7))
    (m_pile : MethOf K C "pile" "Book.pile" (inBook 8))
    (m_fallen_to : MethOf K C "fallen_to" "Book.fallen_to" (inBook 10))
    (m_cash : MethOf K C "cash" "Book.cash" (inBook 11))
    (m_put : MethOf K C "put" "Book.put" (inBook 12))
    (m_give : MethOf K C "give" "Book.give" (inBook 13))
    (m_whole_of : MethOf K C "whole_of" "Book.whole_of" (inBook 9))
    (m_may_fall : MethOf K C "may_fall" "Book.may_fall" (inBook 14))
    (m_let_fall : MethOf K C "let_fall" "Book.let_fall" (inBook 15))
    (c_LETTERS : ConOf mg "LETTERS" (.str "abcdefghijklmnopqrstuvwxyz"))
    (c_LONGEST : ConOf mg "LONGEST" (.int 8))
    (c_MOST : ConOf mg "MOST" (.int 60))
    (c_MOST_PERSONS : ConOf mg "MOST_PERSONS" (.int 12))
    (B : Blt mg)
    (B2 : Blt2 mg)
    (B3 : Blt3 mg)
    (xmo : DefKOf X mg "most_of" (topS 37) "word" (.str "pay"))
    (xTM : TabOf X w mg "MOSTS" "most_to_pay" "most_to_clear")
    (xC43 : ∃ (X : Xs) (BE : Addr), C43 l.prog K mg X BE)
    (xTA : TabNOf X w mg "ACTIONS" "pay_on" "clear_ring" ["Pay", "give"]) :
    ∃ fd : FuncData, (∀ (s : Shared) (v : Value), BindsTo s fd ⟨[v], []⟩ [("_law_script", v)]) ∧ ∀ base : Heap, K.In base → base.Ns mainGlobals mg → FnG l.prog w K mg base CX0 14 fa fd ["_law_script"] (spLaw K) := by
  obtain ⟨f_is_name, fd_is_name, F_is_name, g_is_name⟩ := d_is_name
  obtain ⟨f_is_whole, fd_is_whole, F_is_whole, g_is_whole⟩ := d_is_whole
  obtain ⟨f_is_amount, fd_is_amount, F_is_amount, g_is_amount⟩ := d_is_amount
  obtain ⟨f_check_persons, fd_check_persons, F_check_persons, g_check_persons⟩ := d_check_persons
  obtain ⟨f_check_amount, fd_check_amount, F_check_amount, g_check_amount⟩ := d_check_amount
  obtain ⟨f_split_notes, fd_split_notes, F_split_notes, g_split_notes⟩ := d_split_notes
  obtain ⟨f_with_changed, fd_with_changed, F_with_changed, g_with_changed⟩ := d_with_changed
  obtain ⟨f_due_of, fd_due_of, F_due_of, g_due_of⟩ := d_due_of
  obtain ⟨f_all_dues, fd_all_dues, F_all_dues, g_all_dues⟩ := d_all_dues
  obtain ⟨f_trail_by, fd_trail_by, F_trail_by, g_trail_by⟩ := d_trail_by
  obtain ⟨f_ring_by, fd_ring_by, F_ring_by, g_ring_by⟩ := d_ring_by
  obtain ⟨f_check_person, fd_check_person, F_check_person, g_check_person⟩ := d_check_person
  obtain ⟨f_ring_of, fd_ring_of, F_ring_of, g_ring_of⟩ := d_ring_of
  obtain ⟨f_most_to_pay, fd_most_to_pay, F_most_to_pay, g_most_to_pay⟩ := d_most_to_pay
  obtain ⟨f_least_due, fd_least_due, F_least_due, g_least_due⟩ := d_least_due
  obtain ⟨f_most_to_clear, fd_most_to_clear, F_most_to_clear, g_most_to_clear⟩ := d_most_to_clear
  obtain ⟨f_pay_on, fd_pay_on, F_pay_on, g_pay_on⟩ := d_pay_on
  obtain ⟨f_clear_ring, fd_clear_ring, F_clear_ring, g_clear_ring⟩ := d_clear_ring
  obtain ⟨f_is_step, fd_is_step, F_is_step, g_is_step⟩ := d_is_step
  obtain ⟨f_stepped, fd_stepped, F_stepped, g_stepped⟩ := d_stepped
  obtain ⟨f_by_weaving, fd_by_weaving, F_by_weaving, g_by_weaving⟩ := d_by_weaving
  obtain ⟨f_l_pot, fd_l_pot, F_l_pot, g_l_pot⟩ := d_l_pot
  obtain ⟨f_l_take, fd_l_take, F_l_take, g_l_take⟩ := d_l_take
  obtain ⟨f_l_name, fd_l_name, F_l_name, g_l_name⟩ := d_l_name
  obtain ⟨f_l_names, fd_l_names, F_l_names, g_l_names⟩ := d_l_names
  obtain ⟨f_l_among, fd_l_among, F_l_among, g_l_among⟩ := d_l_among
  obtain ⟨f_l_amount, fd_l_amount, F_l_amount, g_l_amount⟩ := d_l_amount
  obtain ⟨f_l_model, fd_l_model, F_l_model, g_l_model⟩ := d_l_model
  obtain ⟨f_l_parted, fd_l_parted, F_l_parted, g_l_parted⟩ := d_l_parted
  obtain ⟨f_l_left, fd_l_left, F_l_left, g_l_left⟩ := d_l_left
  obtain ⟨f_l_cash, fd_l_cash, F_l_cash, g_l_cash⟩ := d_l_cash
  obtain ⟨f_l_next, fd_l_next, F_l_next, g_l_next⟩ := d_l_next
  obtain ⟨f_l_trail, fd_l_trail, F_l_trail, g_l_trail⟩ := d_l_trail
  obtain ⟨f_l_ring, fd_l_ring, F_l_ring, g_l_ring⟩ := d_l_ring
  obtain ⟨f_l_deeds, fd_l_deeds, F_l_deeds, g_l_deeds⟩ := d_l_deeds
  obtain ⟨f_l_done, fd_l_done, F_l_done, g_l_done⟩ := d_l_done
  obtain ⟨f_l_booked, fd_l_booked, F_l_booked, g_l_booked⟩ := d_l_booked
  obtain ⟨f_l_alike, fd_l_alike, F_l_alike, g_l_alike⟩ := d_l_alike
  obtain ⟨f_l_drawn, fd_l_drawn, F_l_drawn, g_l_drawn⟩ := d_l_drawn
  obtain ⟨f_l_most, fd_l_most, F_l_most, g_l_most⟩ := d_l_most
  obtain ⟨f_l_steps, fd_l_steps, F_l_steps, g_l_steps⟩ := d_l_steps
  obtain ⟨f_l_word, fd_l_word, F_l_word, g_l_word⟩ := d_l_word
  obtain ⟨f_l_heard, fd_l_heard, F_l_heard, g_l_heard⟩ := d_l_heard
  obtain ⟨f_l_most_heard, fd_l_most_heard, F_l_most_heard, g_l_most_heard⟩ := d_l_most_heard
  obtain ⟨f_l_is_whole, fd_l_is_whole, F_l_is_whole, g_l_is_whole⟩ := d_l_is_whole
  obtain ⟨f_l_due, fd_l_due, F_l_due, g_l_due⟩ := d_l_due
  obtain ⟨f_l_spoilt, fd_l_spoilt, F_l_spoilt, g_l_spoilt⟩ := d_l_spoilt
  obtain ⟨f_l_names_right, fd_l_names_right, F_l_names_right, g_l_names_right⟩ := d_l_names_right
  obtain ⟨f_l_right, fd_l_right, F_l_right, g_l_right⟩ := d_l_right
  obtain ⟨f_law, fd_law, F_law, g_law⟩ := d_law
  obtain ⟨f_init, fd_init, F_init, M_init⟩ := m_init
  obtain ⟨f_with_these, fd_with_these, F_with_these, M_with_these⟩ := m_with_these
  obtain ⟨f_has, fd_has, F_has, M_has⟩ := m_has
  obtain ⟨f_place_of, fd_place_of, F_place_of, M_place_of⟩ := m_place_of
  obtain ⟨f_persons, fd_persons, F_persons, M_persons⟩ := m_persons
  obtain ⟨f_given, fd_given, F_given, M_given⟩ := m_given
  obtain ⟨f_fallen, fd_fallen, F_fallen, M_fallen⟩ := m_fallen
  obtain ⟨f_notes, fd_notes, F_notes, M_notes⟩ := m_notes
  obtain ⟨f_pile, fd_pile, F_pile, M_pile⟩ := m_pile
  obtain ⟨f_fallen_to, fd_fallen_to, F_fallen_to, M_fallen_to⟩ := m_fallen_to
  obtain ⟨f_cash, fd_cash, F_cash, M_cash⟩ := m_cash
  obtain ⟨f_put, fd_put, F_put, M_put⟩ := m_put
  obtain ⟨f_give, fd_give, F_give, M_give⟩ := m_give
  obtain ⟨f_whole_of, fd_whole_of, F_whole_of, M_whole_of⟩ := m_whole_of
  obtain ⟨f_may_fall, fd_may_fall, F_may_fall, M_may_fall⟩ := m_may_fall
  obtain ⟨f_let_fall, fd_let_fall, F_let_fall, M_let_fall⟩ := m_let_fall
  obtain ⟨u_LETTERS, g_LETTERS, t_LETTERS, rfl⟩ := c_LETTERS
  obtain ⟨u_LONGEST, g_LONGEST, t_LONGEST, rfl⟩ := c_LONGEST
  obtain ⟨u_MOST, g_MOST, t_MOST, rfl⟩ := c_MOST
  obtain ⟨u_MOST_PERSONS, g_MOST_PERSONS, t_MOST_PERSONS, rfl⟩ := c_MOST_PERSONS
  obtain ⟨f_most_of, fd_most_of, F_most_of, FD_most_of, g_most_of⟩ := xmo
  obtain ⟨fp_TM, fc_TM, TM, gp_TM, gc_TM⟩ := xTM
  have ep_TM := gp_TM.symm.trans g_most_to_pay
  cases ep_TM
  have ec_TM := gc_TM.symm.trans g_most_to_clear
  cases ec_TM
  obtain ⟨XX, BE, C4⟩ := xC43
  obtain ⟨BA, PBA⟩ := C4.A
  obtain ⟨fp_TA, fc_TA, TAN, gp_TA, gc_TA⟩ := xTA
  have TA := TAN.tab
  have ep_TA := gp_TA.symm.trans g_pay_on
  cases ep_TA
  have ec_TA := gc_TA.symm.trans g_clear_ring
  cases ec_TA
  have e := hfa.symm.trans g_law
  cases e
  refine ⟨fd_law, fun s v => ?_, fun base _ _ => ?_⟩
  · obtain ⟨oc, od, kV, doc, pm, an, cdv, ct, osl, rfl, lk, hcd⟩ := F_law.ex
    exact .of_eq rfl
  · have T := TC.T
    have NM : Has l.prog w K mg base 1 "is_name" ["thing"] (spBool K nameD) f_is_name fd_is_name := ⟨ok_name F_is_name B ⟨t_LETTERS, g_LETTERS⟩ ⟨t_LONGEST, g_LONGEST⟩, g_is_name, F_is_name.kp, (bind1 F_is_name fun _ _ _ _ _ _ _ => rfl)⟩
    have WH : Has l.prog w K mg base 1 "is_whole" ["thing"] (spBool K wholeD) f_is_whole fd_is_whole := ⟨ok_whole F_is_whole B, g_is_whole, F_is_whole.kp, (bind1 F_is_whole fun _ _ _ _ _ _ _ => rfl)⟩
    have AMT : Has l.prog w K mg base 2 "is_amount" ["thing"] (spBool K amountD) f_is_amount fd_is_amount := ⟨ok_amount F_is_amount F_is_whole (bind1 F_is_whole fun _ _ _ _ _ _ _ => rfl) g_is_whole B, g_is_amount, F_is_amount.kp, (bind1 F_is_amount fun _ _ _ _ _ _ _ => rfl)⟩
    have CKP : Has l.prog w K mg base 2 "check_persons" ["persons"] (spCheckP K) f_check_persons fd_check_persons := ⟨ok_checkP F_check_persons B B3 ⟨t_MOST_PERSONS, g_MOST_PERSONS⟩ NM, g_check_persons, F_check_persons.kp, (bind1 F_check_persons fun _ _ _ _ _ _ _ => rfl)⟩
    have CKA : Has l.prog w K mg base 3 "check_amount" ["amount"] (spCheckA K) f_check_amount fd_check_amount := ⟨ok_checkA F_check_amount AMT, g_check_amount, F_check_amount.kp, (bind1 F_check_amount fun _ _ _ _ _ _ _ => rfl)⟩
    have CHG : Has l.prog w K mg base 1 "with_changed" ["row", "place", "thing"] (spChg K) f_with_changed fd_with_changed := ⟨ok_chg F_with_changed, g_with_changed, F_with_changed.kp, (bind3 F_with_changed fun _ _ _ _ _ _ _ _ _ => rfl)⟩
    have SPL : Has l.prog w K mg base 1 "split_notes" ["notes", "fallen"] (spSplit K) f_split_notes fd_split_notes := ⟨ok_split F_split_notes B2, g_split_notes, F_split_notes.kp, (bind2 F_split_notes fun _ _ _ _ _ _ _ _ => rfl)⟩
    have GI : FnOk l.prog w K mg base CX0 3 f_init fd_init ["self", "persons"] (spInit K C) := ok_init F_init T B B3 CKP
    have bI : Binds K fd_init ["self", "persons"] [] := (bind2 F_init fun _ _ _ _ _ _ _ _ => rfl)
    have MK : Mk K C f_init := ⟨TC.makes, M_init.at_, M_init.fn, TC.kp⟩
    have WT : HasM l.prog w K mg base C 5 "with_these" ["self", "gifts", "stacks", "drops"] (spWith K C) f_with_these fd_with_these := ⟨ok_with F_with_these T B3 MK TC.g GI bI, M_with_these, (bind4 F_with_these fun _ _ _ _ _ _ _ _ _ _ => rfl)⟩
    have HS : HasM l.prog w K mg base C 2 "has" ["self", "who"] (spHas K C) f_has fd_has := ⟨ok_has F_has T NM, M_has, (bind2 F_has fun _ _ _ _ _ _ _ _ => rfl)⟩
    have PL : HasM l.prog w K mg base C 3 "place_of" ["self", "who"] (spPlace K C) f_place_of fd_place_of := ⟨ok_place F_place_of T HS, M_place_of, (bind2 F_place_of fun _ _ _ _ _ _ _ _ => rfl)⟩
    have PS : HasM l.prog w K mg base C 1 "persons" ["self"] (spPersons K C) f_persons fd_persons := ⟨ok_persons F_persons T B3, M_persons, (bind1 F_persons fun _ _ _ _ _ _ _ => rfl)⟩
    have GV : HasM l.prog w K mg base C 4 "given" ["self", "who"] (spNum K C Bk.gifts) f_given fd_given := ⟨ok_given F_given T PL, M_given, (bind2 F_given fun _ _ _ _ _ _ _ _ => rfl)⟩
    have FL : HasM l.prog w K mg base C 4 "fallen" ["self", "who"] (spNum K C Bk.drops) f_fallen fd_fallen := ⟨ok_fallen F_fallen T PL, M_fallen, (bind2 F_fallen fun _ _ _ _ _ _ _ _ => rfl)⟩
    have NT : HasM l.prog w K mg base C 4 "notes" ["self", "who"] (spRow K C fun l _ => l) f_notes fd_notes := ⟨ok_notes F_notes T B3 PL, M_notes, (bind2 F_notes fun _ _ _ _ _ _ _ _ => rfl)⟩
    have PI : HasM l.prog w K mg base C 5 "pile" ["self", "who"] (spRow K C leftN) f_pile fd_pile := ⟨ok_pile F_pile T SPL NT FL, M_pile, (bind2 F_pile fun _ _ _ _ _ _ _ _ => rfl)⟩
    have FT : HasM l.prog w K mg base C 4 "fallen_to" ["self", "who"] (spCalc K C fun M _ z => fallTo M z) f_fallen_to fd_fallen_to := ⟨ok_fallTo F_fallen_to T B3 PL SPL, M_fallen_to, (bind2 F_fallen_to fun _ _ _ _ _ _ _ _ => rfl)⟩
    have CS : HasM l.prog w K mg base C 5 "cash" ["self", "who"] (spCalc K C cashM) f_cash fd_cash := ⟨ok_cash F_cash T GV FT FL, M_cash, (bind2 F_cash fun _ _ _ _ _ _ _ _ => rfl)⟩
    have PU : HasM l.prog w K mg base C 6 "put" ["self", "who", "to", "amount"] (spPut K C) f_put fd_put := ⟨ok_put F_put T B B3 ⟨t_MOST, g_MOST⟩ PL CKA CHG WT, M_put, (bind4 F_put fun _ _ _ _ _ _ _ _ _ _ => rfl)⟩
    have GE : HasM l.prog w K mg base C 6 "give" ["self", "who", "amount"] (spGive K C) f_give fd_give := ⟨ok_give F_give T PL CKA CHG WT, M_give, (bind3 F_give fun _ _ _ _ _ _ _ _ _ => rfl)⟩
    have WO : HasM l.prog w K mg base C 5 "whole_of" ["self", "who"] (spCalc K C fun M j _ => wholeN (M.stacks.getD j [])) f_whole_of fd_whole_of := ⟨ok_whOf F_whole_of T B3 NT, M_whole_of, (bind2 F_whole_of fun _ _ _ _ _ _ _ _ => rfl)⟩
    have MF : HasM l.prog w K mg base C 6 "may_fall" ["self", "more"] (spMayF K C) f_may_fall fd_may_fall := ⟨ok_mayF F_may_fall T B B3 HS WH FL WO, M_may_fall, (bind2 F_may_fall fun _ _ _ _ _ _ _ _ => rfl)⟩
    have LF : HasM l.prog w K mg base C 7 "let_fall" ["self", "more"] (spLetF K C) f_let_fall fd_let_fall := ⟨ok_letF F_let_fall T B3 MF FL WT CS, M_let_fall, (bind2 F_let_fall fun _ _ _ _ _ _ _ _ => rfl)⟩
    have DU : Has l.prog w K mg base 6 "due_of" ["book", "who"] (spDue K C) f_due_of fd_due_of := ⟨ok_due F_due_of T B PI, g_due_of, F_due_of.kp, (bind2 F_due_of fun _ _ _ _ _ _ _ _ => rfl)⟩
    have AD : Has l.prog w K mg base 7 "all_dues" ["book"] (spDues K C) f_all_dues fd_all_dues := ⟨ok_dues F_all_dues T PS DU, g_all_dues, F_all_dues.kp, (bind1 F_all_dues fun _ _ _ _ _ _ _ => rfl)⟩
    have TB : Has l.prog w K mg base 1 "trail_by" ["dues", "who"] (spTrB K) f_trail_by fd_trail_by := ⟨ok_trB F_trail_by, g_trail_by, F_trail_by.kp, (bind2 F_trail_by fun _ _ _ _ _ _ _ _ => rfl)⟩
    have RB : Has l.prog w K mg base 2 "ring_by" ["dues", "who"] (spRgB K) f_ring_by fd_ring_by := ⟨ok_rgB F_ring_by TB, g_ring_by, F_ring_by.kp, (bind2 F_ring_by fun _ _ _ _ _ _ _ _ => rfl)⟩
    have CKW : Has l.prog w K mg base 3 "check_person" ["book", "who"] (spCkP K C) f_check_person fd_check_person := ⟨ok_ckP F_check_person T HS, g_check_person, F_check_person.kp, (bind2 F_check_person fun _ _ _ _ _ _ _ _ => rfl)⟩
    have RO : Has l.prog w K mg base 8 "ring_of" ["book", "who"] (spRgO K C) f_ring_of fd_ring_of := ⟨ok_rgO F_ring_of CKW RB AD, g_ring_of, F_ring_of.kp, (bind2 F_ring_of fun _ _ _ _ _ _ _ _ => rfl)⟩
    have TK : HasTake l.prog w K mg base f_l_take fd_l_take := ⟨ok_take F_l_take B2, g_l_take, F_l_take.kp, (bind2 F_l_take fun _ _ _ _ _ _ _ _ => rfl)⟩
    have AM : HasAmong l.prog w K mg base f_l_among fd_l_among := ⟨ok_among F_l_among B TK, g_l_among, F_l_among.kp, (bind2 F_l_among fun _ _ _ _ _ _ _ _ => rfl)⟩
    have LP : Has l.prog w K mg base 3 "_law_pot" ["_law_script", "_law_k"] (spPot K) f_l_pot fd_l_pot := ⟨ok_pot F_l_pot B B2, g_l_pot, F_l_pot.kp, (bind2 F_l_pot fun _ _ _ _ _ _ _ _ => rfl)⟩
    have LNM : Has l.prog w K mg base 2 "_law_name" ["_law_pot_here", "_law_used"] spLNm f_l_name fd_l_name := ⟨ok_lnm F_l_name B B2 TK, g_l_name, F_l_name.kp, (bind2 F_l_name fun _ _ _ _ _ _ _ _ => rfl)⟩
    have LNS : Has l.prog w K mg base 3 "_law_names" ["_law_pot_here", "_law_many"] spLNms f_l_names fd_l_names := ⟨ok_lnms F_l_names B2 LNM, g_l_names, F_l_names.kp, (bind2 F_l_names fun _ _ _ _ _ _ _ _ => rfl)⟩
    have LAM : Has l.prog w K mg base 2 "_law_amount" ["_law_pot_here", "_law_size"] spLAm f_l_amount fd_l_amount := ⟨ok_lam F_l_amount TK, g_l_amount, F_l_amount.kp, (bind2 F_l_amount fun _ _ _ _ _ _ _ _ => rfl)⟩
    have LMD : Has l.prog w K mg base 1 "_law_model" ["_law_names_here"] (spLMd K) f_l_model fd_l_model := ⟨ok_lmd F_l_model B3, g_l_model, F_l_model.kp, (bind1 F_l_model fun _ _ _ _ _ _ _ => rfl)⟩
    have LPT : Has l.prog w K mg base 1 "_law_parted" ["_law_model_here", "_law_who"] (spLPt K) f_l_parted fd_l_parted := ⟨ok_lpt F_l_parted B B2, g_l_parted, F_l_parted.kp, (bind2 F_l_parted fun _ _ _ _ _ _ _ _ => rfl)⟩
    have LLF : Has l.prog w K mg base 2 "_law_left" ["_law_model_here", "_law_who"] (spLLf K) f_l_left fd_l_left := ⟨ok_llf F_l_left LPT, g_l_left, F_l_left.kp, (bind2 F_l_left fun _ _ _ _ _ _ _ _ => rfl)⟩
    have LNX : Has l.prog w K mg base 3 "_law_next" ["_law_model_here", "_law_who"] (spLNx K) f_l_next fd_l_next := ⟨ok_lnx F_l_next LLF, g_l_next, F_l_next.kp, (bind2 F_l_next fun _ _ _ _ _ _ _ _ => rfl)⟩
    have LTR : Has l.prog w K mg base 4 "_law_trail" ["_law_model_here", "_law_who"] (spLTr K) f_l_trail fd_l_trail := ⟨ok_ltr F_l_trail LNX, g_l_trail, F_l_trail.kp, (bind2 F_l_trail fun _ _ _ _ _ _ _ _ => rfl)⟩
    have LRG : Has l.prog w K mg base 5 "_law_ring" ["_law_model_here", "_law_who"] (spLRg K) f_l_ring fd_l_ring := ⟨ok_lrg F_l_ring B2 LNX LTR, g_l_ring, F_l_ring.kp, (bind2 F_l_ring fun _ _ _ _ _ _ _ _ => rfl)⟩
    have MTP : Has l.prog w K mg base 7 "most_to_pay" ["book", "who"] (spCalc K C mostP) f_most_to_pay fd_most_to_pay := ⟨ok_mtP F_most_to_pay T B2 DU CS, g_most_to_pay, F_most_to_pay.kp, (bind2 F_most_to_pay fun _ _ _ _ _ _ _ _ => rfl)⟩
    have LED : Has l.prog w K mg base 7 "least_due" ["book", "ring"] (spLeD K C) f_least_due fd_least_due := ⟨ok_leD F_least_due B2 DU, g_least_due, F_least_due.kp, (bind2 F_least_due fun _ _ _ _ _ _ _ _ => rfl)⟩
    have PYO : Has l.prog w K mg base 8 "pay_on" ["book", "who", "amount"] (spPayO K C) f_pay_on fd_pay_on := ⟨ok_payO F_pay_on T MTP CKA LF, g_pay_on, F_pay_on.kp, (bind3 F_pay_on fun _ _ _ _ _ _ _ _ _ => rfl)⟩
    have CLR : Has l.prog w K mg base 9 "clear_ring" ["book", "who", "amount"] (spClR K C) f_clear_ring fd_clear_ring := ⟨ok_clR F_clear_ring T RO CKA LED LF, g_clear_ring, F_clear_ring.kp, (bind3 F_clear_ring fun _ _ _ _ _ _ _ _ _ => rfl)⟩
    have ISS : Has l.prog w K mg base 1 "is_step" ["thing"] (spIsS K) f_is_step fd_is_step := ⟨ok_isS F_is_step B B3 TA, g_is_step, F_is_step.kp, (bind1 F_is_step fun _ _ _ _ _ _ _ => rfl)⟩
    have STC : Has l.prog w K mg base 10 "stepped" ["book", "step"] (spSt K C) f_stepped fd_stepped := ⟨fnOr (FnOk.mono (ok_stP F_stepped TA ISS PYO) (show 9 ≤ 10 by decide)) (ok_stC F_stepped TA ISS CLR), g_stepped, F_stepped.kp, (bind2 F_stepped fun _ _ _ _ _ _ _ _ => rfl)⟩
    have PLN : HasMX l.prog w K mg base C 3 "place_of" ["self", "who"] (spNo K C XX.N) f_place_of fd_place_of := ⟨no_place F_place_of T C4.N HS, M_place_of, (bind2 F_place_of fun _ _ _ _ _ _ _ _ => rfl)⟩
    have NTN : HasMX l.prog w K mg base C 4 "notes" ["self", "who"] (spNo K C XX.N) f_notes fd_notes := ⟨no_notes F_notes T B3 PLN, M_notes, (bind2 F_notes fun _ _ _ _ _ _ _ _ => rfl)⟩
    have PIN : HasMX l.prog w K mg base C 5 "pile" ["self", "who"] (spNo K C XX.N) f_pile fd_pile := ⟨no_pile F_pile T SPL NTN, M_pile, (bind2 F_pile fun _ _ _ _ _ _ _ _ => rfl)⟩
    have DUN : HasX l.prog w K mg base 6 "due_of" ["book", "who"] (spNo K C XX.N) f_due_of fd_due_of := ⟨no_due F_due_of T PIN, g_due_of, F_due_of.kp, (bind2 F_due_of fun _ _ _ _ _ _ _ _ => rfl)⟩
    have MPN : HasX l.prog w K mg base 7 "most_to_pay" ["book", "who"] (spNo K C XX.N) f_most_to_pay fd_most_to_pay := ⟨no_mtp F_most_to_pay DUN, g_most_to_pay, F_most_to_pay.kp, (bind2 F_most_to_pay fun _ _ _ _ _ _ _ _ => rfl)⟩
    have CKN : HasX l.prog w K mg base 3 "check_person" ["book", "who"] (spNo K C XX.N) f_check_person fd_check_person := ⟨no_ckS F_check_person T C4.N HS, g_check_person, F_check_person.kp, (bind2 F_check_person fun _ _ _ _ _ _ _ _ => rfl)⟩
    have RON : HasX l.prog w K mg base 4 "ring_of" ["book", "who"] (spNo K C XX.N) f_ring_of fd_ring_of := ⟨no_rgS F_ring_of CKN, g_ring_of, F_ring_of.kp, (bind2 F_ring_of fun _ _ _ _ _ _ _ _ => rfl)⟩
    have MCN : HasX l.prog w K mg base 5 "most_to_clear" ["book", "who"] (spNo K C XX.N) f_most_to_clear fd_most_to_clear := ⟨no_mtc F_most_to_clear RON, g_most_to_clear, F_most_to_clear.kp, (bind2 F_most_to_clear fun _ _ _ _ _ _ _ _ => rfl)⟩
    have CAN : HasX l.prog w K mg base 3 "check_amount" ["amount"] (spCAX K XX.A) f_check_amount fd_check_amount := ⟨no_checkA F_check_amount PBA AMT, g_check_amount, F_check_amount.kp, (bind1 F_check_amount fun _ _ _ _ _ _ _ => rfl)⟩
    have PYR : HasX l.prog w K mg base 8 "pay_on" ["book", "who", "amount"] (spPyR K C XX) f_pay_on fd_pay_on := ⟨no_pyR (no_pyS F_pay_on MPN) (no_pyA F_pay_on MTP CAN) (no_payO F_pay_on C4.T MTP CKA), g_pay_on, F_pay_on.kp, (bind3 F_pay_on fun _ _ _ _ _ _ _ _ _ => rfl)⟩
    have CLRR : HasX l.prog w K mg base 9 "clear_ring" ["book", "who", "amount"] (spClR2 K C XX) f_clear_ring fd_clear_ring := ⟨no_clR2 (no_clS F_clear_ring RON) (no_clA F_clear_ring RO CAN) (no_clR F_clear_ring C4.T RO CKA LED) (no_clN F_clear_ring C4.R RO CKA), g_clear_ring, F_clear_ring.kp, (bind3 F_clear_ring fun _ _ _ _ _ _ _ _ _ => rfl)⟩
    have STR : HasX l.prog w K mg base 10 "stepped" ["book", "step"] (spStR K C XX nos43) f_stepped fd_stepped := ⟨no_stR F_stepped TAN C4.S ISS (ok_isN F_is_step B B3 TAN) PYR CLRR, g_stepped, F_stepped.kp, (bind2 F_stepped fun _ _ _ _ _ _ _ _ => rfl)⟩
    have STO : HasX l.prog w K mg base 10 "stepped" ["book", "step"] (spStO K C XX nos43) f_stepped fd_stepped := ⟨fnOr (FnOk.up STC.ok) STR.ok, g_stepped, F_stepped.kp, (bind2 F_stepped fun _ _ _ _ _ _ _ _ => rfl)⟩
    have BWR : HasX l.prog w K mg base 11 "by_weaving" ["book", "weaving"] (spWvR K C XX nos43) f_by_weaving fd_by_weaving := ⟨no_bwR F_by_weaving STO, g_by_weaving, F_by_weaving.kp, (bind2 F_by_weaving fun _ _ _ _ _ _ _ _ => rfl)⟩
    have MON : HasMostX l.prog w K mg base 8 (spMoN2 K C XX.N) f_most_of fd_most_of := ⟨no_moN F_most_of TM MPN MCN, g_most_of, F_most_of.kp, kbMost F_most_of fun _ _ _ _ _ _ _ _ _ => rfl⟩
    have LCS : Has l.prog w K mg base 2 "_law_cash" ["_law_model_here", "_law_who"] (spLCs K) f_l_cash fd_l_cash := ⟨ok_lcs F_l_cash B3 LPT, g_l_cash, F_l_cash.kp, (bind2 F_l_cash fun _ _ _ _ _ _ _ _ => rfl)⟩
    have LDS : Has l.prog w K mg base 3 "_law_deeds" ["_law_pot_here", "_law_names_here", "_law_many", "_law_size"] (spLDs K) f_l_deeds fd_l_deeds := ⟨ok_lds F_l_deeds B2 TK AM LAM, g_l_deeds, F_l_deeds.kp, (bind4 F_l_deeds fun _ _ _ _ _ _ _ _ _ _ => rfl)⟩
    have LDN : Has l.prog w K mg base 1 "_law_done" ["_law_model_here", "_law_deed"] (spLDn K) f_l_done fd_l_done := ⟨ok_ldn F_l_done, g_l_done, F_l_done.kp, (bind2 F_l_done fun _ _ _ _ _ _ _ _ => rfl)⟩
    have LBK : Has l.prog w K mg base 7 "_law_booked" ["_law_book", "_law_deeds_here"] (spLBk K C) f_l_booked fd_l_booked := ⟨ok_lbk F_l_booked T GE PU, g_l_booked, F_l_booked.kp, (bind2 F_l_booked fun _ _ _ _ _ _ _ _ => rfl)⟩
    have LAL : HasG l.prog w K mg base 6 "_law_alike" ["_law_model_here", "_law_book"] (spLAl K C) f_l_alike fd_l_alike := ⟨ok_lal F_l_alike T B2 PS GV FL CS NT PI LCS LLF, g_l_alike, F_l_alike.kp, (bind2 F_l_alike fun _ _ _ _ _ _ _ _ => rfl)⟩
    have LDR : Has l.prog w K mg base 8 "_law_drawn" ["_law_pot_here", "_law_most_here", "_law_many"] (spLDr K C) f_l_drawn fd_l_drawn := ⟨ok_ldr F_l_drawn TK LNS LDS LMD LDN LBK MK TC.g GI bI, g_l_drawn, F_l_drawn.kp, (bind3 F_l_drawn fun _ _ _ _ _ _ _ _ _ => rfl)⟩
    have LMO : Has l.prog w K mg base 6 "_law_most" ["_law_model_here", "_law_step", "_law_who"] (spLMo K) f_l_most fd_l_most := ⟨ok_lmo F_l_most B2 LLF LCS LRG, g_l_most, F_l_most.kp, (bind3 F_l_most fun _ _ _ _ _ _ _ _ _ => rfl)⟩
    have LSS : Has l.prog w K mg base 7 "_law_steps" ["_law_model_here"] (spLSs K) f_l_steps fd_l_steps := ⟨ok_lss F_l_steps LMO, g_l_steps, F_l_steps.kp, (bind1 F_l_steps fun _ _ _ _ _ _ _ => rfl)⟩
    have LWD : HasU l.prog w K mg base 2 "_law_word" ["_law_e"] (spLWd K XX) f_l_word fd_l_word := ⟨ok_lwd F_l_word B B2 C4.x, g_l_word, F_l_word.kp, (bind1 F_l_word fun _ _ _ _ _ _ _ => rfl)⟩
    have LHD : HasG l.prog w K mg base 12 "_law_heard" ["_law_way", "_law_book", "_law_step"] (spLHd K C nos43) f_l_heard fd_l_heard := ⟨ok_lhd F_l_heard C4.x LWD STO PYR CLRR BWR, g_l_heard, F_l_heard.kp, (bind3 F_l_heard fun _ _ _ _ _ _ _ _ _ => rfl)⟩
    have LMH : HasG l.prog w K mg base 9 "_law_most_heard" ["_law_book", "_law_who", "_law_kind"] (spLMh K C) f_l_most_heard fd_l_most_heard := ⟨ok_lmh F_l_most_heard C4.x LWD MON, g_l_most_heard, F_l_most_heard.kp, (bind3 F_l_most_heard fun _ _ _ _ _ _ _ _ _ => rfl)⟩
    have LIW : Has l.prog w K mg base 1 "_law_is_whole" ["_law_thing"] (spBool K amountD) f_l_is_whole fd_l_is_whole := ⟨ok_liw F_l_is_whole B, g_l_is_whole, F_l_is_whole.kp, (bind1 F_l_is_whole fun _ _ _ _ _ _ _ => rfl)⟩
    have LDU : HasG l.prog w K mg base 7 "_law_due" ["_law_model_here", "_law_step"] (spLDu K) f_l_due fd_l_due := ⟨ok_ldu F_l_due B B2 B3 LIW LRG LMO, g_l_due, F_l_due.kp, (bind2 F_l_due fun _ _ _ _ _ _ _ _ => rfl)⟩
    have LSO : Has l.prog w K mg base 7 "_law_spoilt" ["_law_pot_here", "_law_model_here"] (spLSo K) f_l_spoilt fd_l_spoilt := ⟨ok_lso F_l_spoilt B B2 B3 TK AM LMO, g_l_spoilt, F_l_spoilt.kp, (bind2 F_l_spoilt fun _ _ _ _ _ _ _ _ => rfl)⟩
    have LNR : HasG l.prog w K mg base 10 "_law_names_right" ["_law_pot_here", "_law_model_here", "_law_book"] (spLNr K C) f_l_names_right fd_l_names_right := ⟨ok_lnr F_l_names_right B B2 TK LMH, g_l_names_right, F_l_names_right.kp, (bind3 F_l_names_right fun _ _ _ _ _ _ _ _ _ => rfl)⟩
    have LRT : HasG l.prog w K mg base 13 "_law_right" ["_law_pot_here"] spLRt f_l_right fd_l_right := ⟨ok_lrt F_l_right B B2 LDR LNR LSO LDU LHD LSS LAL, g_l_right, F_l_right.kp, (bind1 F_l_right fun _ _ _ _ _ _ _ => rfl)⟩
    exact ok_law F_law B B2 LP LRT
end Rc

set_option pp.maxSteps 300
set_option pp.deepTerms false
open PySem PySem.W PyProof.Rows
set_option maxHeartbeats 0 in
theorem PySem.Challenge.cw_ringclear_k43_refused_in_order_holds : PySem.Challenge.rw_ringclear_k43_refused_in_order.Holds := by
  w_on; o_law; k_head; (case hw => w_witness2)
  k_fill
  refine Rc.walk_ofG (l := PySem.Challenge.rw_ringclear_k43_refused_in_order) (n := 63) (k := 14) (x := "_law_script") (CX := fun _ => L2.CX0) (sp := fun w => Rc.spLaw _) rfl (by decide) rfl ⟨rfl, by decide, by decide⟩ (fun w h Y => PySem.W.kIn_of Y) ?F (fun _ _ a ns hl _ hS => ⟨a, ns, rfl, hS, hl, fun _ => rfl⟩) (fun _ _ _ _ _ h => h)
  case F =>
    intro w mg fa h KX G hmg
    refine' Rc.all_mk KX hmg ?TC ?d_is_name ?d_is_whole ?d_is_amount ?d_check_persons ?d_check_amount ?d_split_notes ?d_with_changed ?d_due_of ?d_all_dues ?d_trail_by ?d_ring_by ?d_check_person ?d_ring_of ?d_most_to_pay ?d_least_due ?d_most_to_clear ?d_pay_on ?d_clear_ring ?d_is_step ?d_stepped ?d_by_weaving ?d_l_pot ?d_l_take ?d_l_name ?d_l_names ?d_l_among ?d_l_amount ?d_l_model ?d_l_parted ?d_l_left ?d_l_cash ?d_l_next ?d_l_trail ?d_l_ring ?d_l_deeds ?d_l_done ?d_l_booked ?d_l_alike ?d_l_drawn ?d_l_most ?d_l_steps ?d_l_word ?d_l_heard ?d_l_most_heard ?d_l_is_whole ?d_l_due ?d_l_spoilt ?d_l_names_right ?d_l_right ?d_law ?m_init ?m_with_these ?m_has ?m_place_of ?m_persons ?m_given ?m_fallen ?m_notes ?m_pile ?m_fallen_to ?m_cash ?m_put ?m_give ?m_whole_of ?m_may_fall ?m_let_fall ?c_LETTERS ?c_LONGEST ?c_MOST ?c_MOST_PERSONS ?B ?B2 ?B3 ?xmo ?xTM ?xC43 ?xTA
    case TC => (refine' Rc.mkTop KX G ?tcA ?tcPg ?tcHd ?tcPo ?tcSa ?tcMk ?tcKc ?tcN1 ?tcN2 ?tcN3 ?tcN4; (case tcA => k_is); (case tcPg => k_is); (case tcHd => k_is); (case tcPo => k_is); (case tcSa => k_is); (case tcMk => k_is); (case tcKc => k_is); (case tcN1 => k_is); (case tcN2 => k_is); (case tcN3 => k_is); (case tcN4 => k_is))
    case c_LETTERS => (refine' Rc.con_of KX G ?ca_LETTERS ?cr_LETTERS; (case ca_LETTERS => k_is); (case cr_LETTERS => exact ⟨_, rfl⟩))
    case c_LONGEST => (refine' Rc.con_of KX G ?ca_LONGEST ?cr_LONGEST; (case ca_LONGEST => k_is); (case cr_LONGEST => exact ⟨_, rfl⟩))
    case c_MOST => (refine' Rc.con_of KX G ?ca_MOST ?cr_MOST; (case ca_MOST => k_is); (case cr_MOST => exact ⟨_, rfl⟩))
    case c_MOST_PERSONS => (refine' Rc.con_of KX G ?ca_MOST_PERSONS ?cr_MOST_PERSONS; (case ca_MOST_PERSONS => k_is); (case cr_MOST_PERSONS => exact ⟨_, rfl⟩))
    case B => (refine' ⟨PySem.W.mg_none_of KX G ?Bz0, PySem.W.mg_none_of KX G ?Bz1, PySem.W.mg_none_of KX G ?Bz2, PySem.W.mg_none_of KX G ?Bz3, PySem.W.mg_none_of KX G ?Bz4, PySem.W.mg_none_of KX G ?Bz5⟩; (case Bz0 => k_is); (case Bz1 => k_is); (case Bz2 => k_is); (case Bz3 => k_is); (case Bz4 => k_is); (case Bz5 => k_is))
    case B2 => (refine' ⟨PySem.W.mg_none_of KX G ?B2z0, PySem.W.mg_none_of KX G ?B2z1, PySem.W.mg_none_of KX G ?B2z2, PySem.W.mg_none_of KX G ?B2z3, PySem.W.mg_none_of KX G ?B2z4, PySem.W.mg_none_of KX G ?B2z5⟩; (case B2z0 => k_is); (case B2z1 => k_is); (case B2z2 => k_is); (case B2z3 => k_is); (case B2z4 => k_is); (case B2z5 => k_is))
    case B3 => (refine' ⟨PySem.W.mg_none_of KX G ?B3z0, PySem.W.mg_none_of KX G ?B3z1, PySem.W.mg_none_of KX G ?B3z2, PySem.W.mg_none_of KX G ?B3z3, PySem.W.mg_none_of KX G ?B3z4, PySem.W.mg_none_of KX G ?B3z5⟩; (case B3z0 => k_is); (case B3z1 => k_is); (case B3z2 => k_is); (case B3z3 => k_is); (case B3z4 => k_is); (case B3z5 => k_is))
    case d_is_name => (refine' Rc.mkDef KX G ?a_d_is_name ?l_d_is_name ?c_d_is_name ?k_d_is_name; (case a_d_is_name => k_is); (case l_d_is_name => k_is); (case c_d_is_name => k_is); (case k_d_is_name => k_is))
    case d_is_whole => (refine' Rc.mkDef KX G ?a_d_is_whole ?l_d_is_whole ?c_d_is_whole ?k_d_is_whole; (case a_d_is_whole => k_is); (case l_d_is_whole => k_is); (case c_d_is_whole => k_is); (case k_d_is_whole => k_is))
    case d_is_amount => (refine' Rc.mkDef KX G ?a_d_is_amount ?l_d_is_amount ?c_d_is_amount ?k_d_is_amount; (case a_d_is_amount => k_is); (case l_d_is_amount => k_is); (case c_d_is_amount => k_is); (case k_d_is_amount => k_is))
    case d_check_persons => (refine' Rc.mkDef KX G ?a_d_check_persons ?l_d_check_persons ?c_d_check_persons ?k_d_check_persons; (case a_d_check_persons => k_is); (case l_d_check_persons => k_is); (case c_d_check_persons => k_is); (case k_d_check_persons => k_is))
    case d_check_amount => (refine' Rc.mkDef KX G ?a_d_check_amount ?l_d_check_amount ?c_d_check_amount ?k_d_check_amount; (case a_d_check_amount => k_is); (case l_d_check_amount => k_is); (case c_d_check_amount => k_is); (case k_d_check_amount => k_is))
    case d_split_notes => (refine' Rc.mkDef KX G ?a_d_split_notes ?l_d_split_notes ?c_d_split_notes ?k_d_split_notes; (case a_d_split_notes => k_is); (case l_d_split_notes => k_is); (case c_d_split_notes => k_is); (case k_d_split_notes => k_is))
    case d_with_changed => (refine' Rc.mkDef KX G ?a_d_with_changed ?l_d_with_changed ?c_d_with_changed ?k_d_with_changed; (case a_d_with_changed => k_is); (case l_d_with_changed => k_is); (case c_d_with_changed => k_is); (case k_d_with_changed => k_is))
    case d_due_of => (refine' Rc.mkDef KX G ?a_d_due_of ?l_d_due_of ?c_d_due_of ?k_d_due_of; (case a_d_due_of => k_is); (case l_d_due_of => k_is); (case c_d_due_of => k_is); (case k_d_due_of => k_is))
    case d_all_dues => (refine' Rc.mkDef KX G ?a_d_all_dues ?l_d_all_dues ?c_d_all_dues ?k_d_all_dues; (case a_d_all_dues => k_is); (case l_d_all_dues => k_is); (case c_d_all_dues => k_is); (case k_d_all_dues => k_is))
    case d_trail_by => (refine' Rc.mkDef KX G ?a_d_trail_by ?l_d_trail_by ?c_d_trail_by ?k_d_trail_by; (case a_d_trail_by => k_is); (case l_d_trail_by => k_is); (case c_d_trail_by => k_is); (case k_d_trail_by => k_is))
    case d_ring_by => (refine' Rc.mkDef KX G ?a_d_ring_by ?l_d_ring_by ?c_d_ring_by ?k_d_ring_by; (case a_d_ring_by => k_is); (case l_d_ring_by => k_is); (case c_d_ring_by => k_is); (case k_d_ring_by => k_is))
    case d_check_person => (refine' Rc.mkDef KX G ?a_d_check_person ?l_d_check_person ?c_d_check_person ?k_d_check_person; (case a_d_check_person => k_is); (case l_d_check_person => k_is); (case c_d_check_person => k_is); (case k_d_check_person => k_is))
    case d_ring_of => (refine' Rc.mkDef KX G ?a_d_ring_of ?l_d_ring_of ?c_d_ring_of ?k_d_ring_of; (case a_d_ring_of => k_is); (case l_d_ring_of => k_is); (case c_d_ring_of => k_is); (case k_d_ring_of => k_is))
    case d_most_to_pay => (refine' Rc.mkDef KX G ?a_d_most_to_pay ?l_d_most_to_pay ?c_d_most_to_pay ?k_d_most_to_pay; (case a_d_most_to_pay => k_is); (case l_d_most_to_pay => k_is); (case c_d_most_to_pay => k_is); (case k_d_most_to_pay => k_is))
    case d_least_due => (refine' Rc.mkDef KX G ?a_d_least_due ?l_d_least_due ?c_d_least_due ?k_d_least_due; (case a_d_least_due => k_is); (case l_d_least_due => k_is); (case c_d_least_due => k_is); (case k_d_least_due => k_is))
    case d_most_to_clear => (refine' Rc.mkDef KX G ?a_d_most_to_clear ?l_d_most_to_clear ?c_d_most_to_clear ?k_d_most_to_clear; (case a_d_most_to_clear => k_is); (case l_d_most_to_clear => k_is); (case c_d_most_to_clear => k_is); (case k_d_most_to_clear => k_is))
    case d_pay_on => (refine' Rc.mkDef KX G ?a_d_pay_on ?l_d_pay_on ?c_d_pay_on ?k_d_pay_on; (case a_d_pay_on => k_is); (case l_d_pay_on => k_is); (case c_d_pay_on => k_is); (case k_d_pay_on => k_is))
    case d_clear_ring => (refine' Rc.mkDef KX G ?a_d_clear_ring ?l_d_clear_ring ?c_d_clear_ring ?k_d_clear_ring; (case a_d_clear_ring => k_is); (case l_d_clear_ring => k_is); (case c_d_clear_ring => k_is); (case k_d_clear_ring => k_is))
    case d_is_step => (refine' Rc.mkDef KX G ?a_d_is_step ?l_d_is_step ?c_d_is_step ?k_d_is_step; (case a_d_is_step => k_is); (case l_d_is_step => k_is); (case c_d_is_step => k_is); (case k_d_is_step => k_is))
    case d_stepped => (refine' Rc.mkDef KX G ?a_d_stepped ?l_d_stepped ?c_d_stepped ?k_d_stepped; (case a_d_stepped => k_is); (case l_d_stepped => k_is); (case c_d_stepped => k_is); (case k_d_stepped => k_is))
    case d_by_weaving => (refine' Rc.mkDef KX G ?a_d_by_weaving ?l_d_by_weaving ?c_d_by_weaving ?k_d_by_weaving; (case a_d_by_weaving => k_is); (case l_d_by_weaving => k_is); (case c_d_by_weaving => k_is); (case k_d_by_weaving => k_is))
    case d_l_pot => (refine' Rc.mkDef KX G ?a_d_l_pot ?l_d_l_pot ?c_d_l_pot ?k_d_l_pot; (case a_d_l_pot => k_is); (case l_d_l_pot => k_is); (case c_d_l_pot => k_is); (case k_d_l_pot => k_is))
    case d_l_take => (refine' Rc.mkDef KX G ?a_d_l_take ?l_d_l_take ?c_d_l_take ?k_d_l_take; (case a_d_l_take => k_is); (case l_d_l_take => k_is); (case c_d_l_take => k_is); (case k_d_l_take => k_is))
    case d_l_name => (refine' Rc.mkDef KX G ?a_d_l_name ?l_d_l_name ?c_d_l_name ?k_d_l_name; (case a_d_l_name => k_is); (case l_d_l_name => k_is); (case c_d_l_name => k_is); (case k_d_l_name => k_is))
    case d_l_names => (refine' Rc.mkDef KX G ?a_d_l_names ?l_d_l_names ?c_d_l_names ?k_d_l_names; (case a_d_l_names => k_is); (case l_d_l_names => k_is); (case c_d_l_names => k_is); (case k_d_l_names => k_is))
    case d_l_among => (refine' Rc.mkDef KX G ?a_d_l_among ?l_d_l_among ?c_d_l_among ?k_d_l_among; (case a_d_l_among => k_is); (case l_d_l_among => k_is); (case c_d_l_among => k_is); (case k_d_l_among => k_is))
    case d_l_amount => (refine' Rc.mkDef KX G ?a_d_l_amount ?l_d_l_amount ?c_d_l_amount ?k_d_l_amount; (case a_d_l_amount => k_is); (case l_d_l_amount => k_is); (case c_d_l_amount => k_is); (case k_d_l_amount => k_is))
    case d_l_model => (refine' Rc.mkDef KX G ?a_d_l_model ?l_d_l_model ?c_d_l_model ?k_d_l_model; (case a_d_l_model => k_is); (case l_d_l_model => k_is); (case c_d_l_model => k_is); (case k_d_l_model => k_is))
    case d_l_parted => (refine' Rc.mkDef KX G ?a_d_l_parted ?l_d_l_parted ?c_d_l_parted ?k_d_l_parted; (case a_d_l_parted => k_is); (case l_d_l_parted => k_is); (case c_d_l_parted => k_is); (case k_d_l_parted => k_is))
    case d_l_left => (refine' Rc.mkDef KX G ?a_d_l_left ?l_d_l_left ?c_d_l_left ?k_d_l_left; (case a_d_l_left => k_is); (case l_d_l_left => k_is); (case c_d_l_left => k_is); (case k_d_l_left => k_is))
    case d_l_cash => (refine' Rc.mkDef KX G ?a_d_l_cash ?l_d_l_cash ?c_d_l_cash ?k_d_l_cash; (case a_d_l_cash => k_is); (case l_d_l_cash => k_is); (case c_d_l_cash => k_is); (case k_d_l_cash => k_is))
    case d_l_next => (refine' Rc.mkDef KX G ?a_d_l_next ?l_d_l_next ?c_d_l_next ?k_d_l_next; (case a_d_l_next => k_is); (case l_d_l_next => k_is); (case c_d_l_next => k_is); (case k_d_l_next => k_is))
    case d_l_trail => (refine' Rc.mkDef KX G ?a_d_l_trail ?l_d_l_trail ?c_d_l_trail ?k_d_l_trail; (case a_d_l_trail => k_is); (case l_d_l_trail => k_is); (case c_d_l_trail => k_is); (case k_d_l_trail => k_is))
    case d_l_ring => (refine' Rc.mkDef KX G ?a_d_l_ring ?l_d_l_ring ?c_d_l_ring ?k_d_l_ring; (case a_d_l_ring => k_is); (case l_d_l_ring => k_is); (case c_d_l_ring => k_is); (case k_d_l_ring => k_is))
    case d_l_deeds => (refine' Rc.mkDef KX G ?a_d_l_deeds ?l_d_l_deeds ?c_d_l_deeds ?k_d_l_deeds; (case a_d_l_deeds => k_is); (case l_d_l_deeds => k_is); (case c_d_l_deeds => k_is); (case k_d_l_deeds => k_is))
    case d_l_done => (refine' Rc.mkDef KX G ?a_d_l_done ?l_d_l_done ?c_d_l_done ?k_d_l_done; (case a_d_l_done => k_is); (case l_d_l_done => k_is); (case c_d_l_done => k_is); (case k_d_l_done => k_is))
    case d_l_booked => (refine' Rc.mkDef KX G ?a_d_l_booked ?l_d_l_booked ?c_d_l_booked ?k_d_l_booked; (case a_d_l_booked => k_is); (case l_d_l_booked => k_is); (case c_d_l_booked => k_is); (case k_d_l_booked => k_is))
    case d_l_alike => (refine' Rc.mkDef KX G ?a_d_l_alike ?l_d_l_alike ?c_d_l_alike ?k_d_l_alike; (case a_d_l_alike => k_is); (case l_d_l_alike => k_is); (case c_d_l_alike => k_is); (case k_d_l_alike => k_is))
    case d_l_drawn => (refine' Rc.mkDef KX G ?a_d_l_drawn ?l_d_l_drawn ?c_d_l_drawn ?k_d_l_drawn; (case a_d_l_drawn => k_is); (case l_d_l_drawn => k_is); (case c_d_l_drawn => k_is); (case k_d_l_drawn => k_is))
    case d_l_most => (refine' Rc.mkDef KX G ?a_d_l_most ?l_d_l_most ?c_d_l_most ?k_d_l_most; (case a_d_l_most => k_is); (case l_d_l_most => k_is); (case c_d_l_most => k_is); (case k_d_l_most => k_is))
    case d_l_steps => (refine' Rc.mkDef KX G ?a_d_l_steps ?l_d_l_steps ?c_d_l_steps ?k_d_l_steps; (case a_d_l_steps => k_is); (case l_d_l_steps => k_is); (case c_d_l_steps => k_is); (case k_d_l_steps => k_is))
    case d_l_word => (refine' Rc.mkDef KX G ?a_d_l_word ?l_d_l_word ?c_d_l_word ?k_d_l_word; (case a_d_l_word => k_is); (case l_d_l_word => k_is); (case c_d_l_word => k_is); (case k_d_l_word => k_is))
    case d_l_heard => (refine' Rc.mkDef KX G ?a_d_l_heard ?l_d_l_heard ?c_d_l_heard ?k_d_l_heard; (case a_d_l_heard => k_is); (case l_d_l_heard => k_is); (case c_d_l_heard => k_is); (case k_d_l_heard => k_is))
    case d_l_most_heard => (refine' Rc.mkDef KX G ?a_d_l_most_heard ?l_d_l_most_heard ?c_d_l_most_heard ?k_d_l_most_heard; (case a_d_l_most_heard => k_is); (case l_d_l_most_heard => k_is); (case c_d_l_most_heard => k_is); (case k_d_l_most_heard => k_is))
    case d_l_is_whole => (refine' Rc.mkDef KX G ?a_d_l_is_whole ?l_d_l_is_whole ?c_d_l_is_whole ?k_d_l_is_whole; (case a_d_l_is_whole => k_is); (case l_d_l_is_whole => k_is); (case c_d_l_is_whole => k_is); (case k_d_l_is_whole => k_is))
    case d_l_due => (refine' Rc.mkDef KX G ?a_d_l_due ?l_d_l_due ?c_d_l_due ?k_d_l_due; (case a_d_l_due => k_is); (case l_d_l_due => k_is); (case c_d_l_due => k_is); (case k_d_l_due => k_is))
    case d_l_spoilt => (refine' Rc.mkDef KX G ?a_d_l_spoilt ?l_d_l_spoilt ?c_d_l_spoilt ?k_d_l_spoilt; (case a_d_l_spoilt => k_is); (case l_d_l_spoilt => k_is); (case c_d_l_spoilt => k_is); (case k_d_l_spoilt => k_is))
    case d_l_names_right => (refine' Rc.mkDef KX G ?a_d_l_names_right ?l_d_l_names_right ?c_d_l_names_right ?k_d_l_names_right; (case a_d_l_names_right => k_is); (case l_d_l_names_right => k_is); (case c_d_l_names_right => k_is); (case k_d_l_names_right => k_is))
    case d_l_right => (refine' Rc.mkDef KX G ?a_d_l_right ?l_d_l_right ?c_d_l_right ?k_d_l_right; (case a_d_l_right => k_is); (case l_d_l_right => k_is); (case c_d_l_right => k_is); (case k_d_l_right => k_is))
    case d_law => (refine' Rc.mkDef KX G ?a_d_law ?l_d_law ?c_d_law ?k_d_law; (case a_d_law => k_is); (case l_d_law => k_is); (case c_d_law => k_is); (case k_d_law => k_is))
    case m_init => (refine' Rc.mkMeth ?a_m_init ?i_m_init ?l_m_init ?c_m_init ?k_m_init; (case a_m_init => k_is); (case i_m_init => k_is); (case l_m_init => k_is); (case c_m_init => k_is); (case k_m_init => k_is))
    case m_with_these => (refine' Rc.mkMeth ?a_m_with_these ?i_m_with_these ?l_m_with_these ?c_m_with_these ?k_m_with_these; (case a_m_with_these => k_is); (case i_m_with_these => k_is); (case l_m_with_these => k_is); (case c_m_with_these => k_is); (case k_m_with_these => k_is))
    case m_has => (refine' Rc.mkMeth ?a_m_has ?i_m_has ?l_m_has ?c_m_has ?k_m_has; (case a_m_has => k_is); (case i_m_has => k_is); (case l_m_has => k_is); (case c_m_has => k_is); (case k_m_has => k_is))
    case m_place_of => (refine' Rc.mkMeth ?a_m_place_of ?i_m_place_of ?l_m_place_of ?c_m_place_of ?k_m_place_of; (case a_m_place_of => k_is); (case i_m_place_of => k_is); (case l_m_place_of => k_is); (case c_m_place_of => k_is); (case k_m_place_of => k_is))
    case m_persons => (refine' Rc.mkMeth ?a_m_persons ?i_m_persons ?l_m_persons ?c_m_persons ?k_m_persons; (case a_m_persons => k_is); (case i_m_persons => k_is); (case l_m_persons => k_is); (case c_m_persons => k_is); (case k_m_persons => k_is))
    case m_given => (refine' Rc.mkMeth ?a_m_given ?i_m_given ?l_m_given ?c_m_given ?k_m_given; (case a_m_given => k_is); (case i_m_given => k_is); (case l_m_given => k_is); (case c_m_given => k_is); (case k_m_given => k_is))
    case m_fallen => (refine' Rc.mkMeth ?a_m_fallen ?i_m_fallen ?l_m_fallen ?c_m_fallen ?k_m_fallen; (case a_m_fallen => k_is); (case i_m_fallen => k_is); (case l_m_fallen => k_is); (case c_m_fallen => k_is); (case k_m_fallen => k_is))
    case m_notes => (refine' Rc.mkMeth ?a_m_notes ?i_m_notes ?l_m_notes ?c_m_notes ?k_m_notes; (case a_m_notes => k_is); (case i_m_notes => k_is); (case l_m_notes => k_is); (case c_m_notes => k_is); (case k_m_notes => k_is))
    case m_pile => (refine' Rc.mkMeth ?a_m_pile ?i_m_pile ?l_m_pile ?c_m_pile ?k_m_pile; (case a_m_pile => k_is); (case i_m_pile => k_is); (case l_m_pile => k_is); (case c_m_pile => k_is); (case k_m_pile => k_is))
    case m_fallen_to => (refine' Rc.mkMeth ?a_m_fallen_to ?i_m_fallen_to ?l_m_fallen_to ?c_m_fallen_to ?k_m_fallen_to; (case a_m_fallen_to => k_is); (case i_m_fallen_to => k_is); (case l_m_fallen_to => k_is); (case c_m_fallen_to => k_is); (case k_m_fallen_to => k_is))
    case m_cash => (refine' Rc.mkMeth ?a_m_cash ?i_m_cash ?l_m_cash ?c_m_cash ?k_m_cash; (case a_m_cash => k_is); (case i_m_cash => k_is); (case l_m_cash => k_is); (case c_m_cash => k_is); (case k_m_cash => k_is))
    case m_put => (refine' Rc.mkMeth ?a_m_put ?i_m_put ?l_m_put ?c_m_put ?k_m_put; (case a_m_put => k_is); (case i_m_put => k_is); (case l_m_put => k_is); (case c_m_put => k_is); (case k_m_put => k_is))
    case m_give => (refine' Rc.mkMeth ?a_m_give ?i_m_give ?l_m_give ?c_m_give ?k_m_give; (case a_m_give => k_is); (case i_m_give => k_is); (case l_m_give => k_is); (case c_m_give => k_is); (case k_m_give => k_is))
    case m_whole_of => (refine' Rc.mkMeth ?a_m_whole_of ?i_m_whole_of ?l_m_whole_of ?c_m_whole_of ?k_m_whole_of; (case a_m_whole_of => k_is); (case i_m_whole_of => k_is); (case l_m_whole_of => k_is); (case c_m_whole_of => k_is); (case k_m_whole_of => k_is))
    case m_may_fall => (refine' Rc.mkMeth ?a_m_may_fall ?i_m_may_fall ?l_m_may_fall ?c_m_may_fall ?k_m_may_fall; (case a_m_may_fall => k_is); (case i_m_may_fall => k_is); (case l_m_may_fall => k_is); (case c_m_may_fall => k_is); (case k_m_may_fall => k_is))
    case m_let_fall => (refine' Rc.mkMeth ?a_m_let_fall ?i_m_let_fall ?l_m_let_fall ?c_m_let_fall ?k_m_let_fall; (case a_m_let_fall => k_is); (case i_m_let_fall => k_is); (case l_m_let_fall => k_is); (case c_m_let_fall => k_is); (case k_m_let_fall => k_is))
    case xmo => (refine' Rc.mkDefK KX G ?xmo_a ?xmo_l ?xmo_c ?xmo_k ?xmo_n ?xmo_r; (case xmo_a => k_is); (case xmo_l => k_is); (case xmo_c => k_is); (case xmo_k => k_is); (case xmo_n => k_is); (case xmo_r => exact ⟨_, rfl⟩))
    case xTM => (refine' Rc.mkTab KX G ?xTM_a ?xTM_l ?xTM_k ?xTM_w ?xTM_p1 ?xTM_c1 ?xTM_p2 ?xTM_c2; (case xTM_a => k_is); (case xTM_l => k_is); (case xTM_k => exact ⟨⟨_, _, rfl, rfl⟩, ⟨_, _, rfl, rfl⟩, trivial⟩); (case xTM_w => rfl); (case xTM_p1 => k_is); (case xTM_c1 => k_is); (case xTM_p2 => k_is); (case xTM_c2 => k_is))
    case xC43 => (refine' Rc.mkC43 (Rc.mkClsP KX G ?xsS_a ?xsS_a1 ?xsS_a2 ?xsS_a3 ?xsS_a4 ?xsS_a5 ?xsS_a6 ?xsS_a7 ?xsS_a8 ?xsS_a9 ?xsS_b1 ?xsS_b2 ?xsS_b3 ?xsS_b4 ?xsS_b5) (Rc.mkCx KX G ?xsN_a ?xsN_a1 ?xsN_a2 ?xsN_a3 ?xsN_a4 ?xsN_a5 ?xsN_a6 ?xsN_a7 ?xsN_a8 ?xsN_a9 ?xsN_b1 ?xsN_b2 ?xsN_b3 ?xsN_b4 ?xsN_b5 ?xsN_b6 ?xsN_b7 ?xsN_i1 ?xsN_i2 ?xsN_i3 ?xsN_i4 ?xsN_i5 ?xsN_i6 ?xsN_i7 ?xsN_i8) (Rc.mkClsP KX G ?xsA_a ?xsA_a1 ?xsA_a2 ?xsA_a3 ?xsA_a4 ?xsA_a5 ?xsA_a6 ?xsA_a7 ?xsA_a8 ?xsA_a9 ?xsA_b1 ?xsA_b2 ?xsA_b3 ?xsA_b4 ?xsA_b5) (Rc.mkCx KX G ?xsR_a ?xsR_a1 ?xsR_a2 ?xsR_a3 ?xsR_a4 ?xsR_a5 ?xsR_a6 ?xsR_a7 ?xsR_a8 ?xsR_a9 ?xsR_b1 ?xsR_b2 ?xsR_b3 ?xsR_b4 ?xsR_b5 ?xsR_b6 ?xsR_b7 ?xsR_i1 ?xsR_i2 ?xsR_i3 ?xsR_i4 ?xsR_i5 ?xsR_i6 ?xsR_i7 ?xsR_i8) (Rc.mkCx KX G ?xsT_a ?xsT_a1 ?xsT_a2 ?xsT_a3 ?xsT_a4 ?xsT_a5 ?xsT_a6 ?xsT_a7 ?xsT_a8 ?xsT_a9 ?xsT_b1 ?xsT_b2 ?xsT_b3 ?xsT_b4 ?xsT_b5 ?xsT_b6 ?xsT_b7 ?xsT_i1 ?xsT_i2 ?xsT_i3 ?xsT_i4 ?xsT_i5 ?xsT_i6 ?xsT_i7 ?xsT_i8) ?xsu_clN ?xsu_obN ?xsu_clR ?xsu_obR ?xsu_clT ?xsu_obT ?xsu_whS ?xsu_moS ?xsu_whN ?xsu_moN ?xsu_whA ?xsu_moA ?xsu_whR ?xsu_moR ?xsu_whT ?xsu_moT ?xsu_s00 ?xsu_s01 ?xsu_s02 ?xsu_s03 ?xsu_s04 ?xsu_s10 ?xsu_s11 ?xsu_s12 ?xsu_s13 ?xsu_s14 ?xsu_s20 ?xsu_s21 ?xsu_s22 ?xsu_s23 ?xsu_s24 ?xsu_s30 ?xsu_s31 ?xsu_s32 ?xsu_s33 ?xsu_s34 ?xsu_s40 ?xsu_s41 ?xsu_s42 ?xsu_s43 ?xsu_s44 ?xsu_k00 ?xsu_k01 ?xsu_k02 ?xsu_k03 ?xsu_k04 ?xsu_k05 ?xsu_k10 ?xsu_k11 ?xsu_k12 ?xsu_k13 ?xsu_k14 ?xsu_k15 ?xsu_k20 ?xsu_k21 ?xsu_k22 ?xsu_k23 ?xsu_k24 ?xsu_k25 ?xsu_k30 ?xsu_k31 ?xsu_k32 ?xsu_k33 ?xsu_k34 ?xsu_k35 ?xsu_k40 ?xsu_k41 ?xsu_k42 ?xsu_k43 ?xsu_k44 ?xsu_k45; (case xsS_a => (first | k_is | kit_is)); (case xsS_a1 => k_exc); (case xsS_a2 => (first | k_is | kit_is)); (case xsS_a3 => (first | k_is | kit_is)); (case xsS_a4 => (first | k_is | kit_is)); (case xsS_a5 => (first | k_is | kit_is)); (case xsS_a6 => (first | k_is | kit_is)); (case xsS_a7 => (first | k_is | kit_is)); (case xsS_a8 => (first | k_is | kit_is)); (case xsS_a9 => (first | k_is | kit_is)); (case xsS_b1 => (first | k_is | kit_is)); (case xsS_b2 => (first | k_is | kit_is)); (case xsS_b3 => (first | k_is | kit_is)); (case xsS_b4 => (first | k_is | kit_is)); (case xsS_b5 => (first | k_is | kit_is)); (case xsN_a => k_is); (case xsN_a1 => kx_is); (case xsN_a2 => kx_is); (case xsN_a3 => k_is); (case xsN_a4 => k_is); (case xsN_a5 => k_is); (case xsN_a6 => k_is); (case xsN_a7 => (refine' Rc.all1 ?xsN_a7f0; (case xsN_a7f0 => k_is))); (case xsN_a8 => k_is); (case xsN_a9 => k_is); (case xsN_b1 => k_is); (case xsN_b2 => k_is); (case xsN_b3 => k_is); (case xsN_b4 => k_is); (case xsN_b5 => ks_is); (case xsN_b6 => k_is); (case xsN_b7 => (first | rfl | decide +kernel)); (case xsN_i1 => k_is); (case xsN_i2 => k_is); (case xsN_i3 => k_is); (case xsN_i4 => k_is); (case xsN_i5 => k_is); (case xsN_i6 => k_is); (case xsN_i7 => rfl); (case xsN_i8 => (first | rfl | decide +kernel)); (case xsA_a => (first | k_is | kit_is)); (case xsA_a1 => k_exc); (case xsA_a2 => (first | k_is | kit_is)); (case xsA_a3 => (first | k_is | kit_is)); (case xsA_a4 => (first | k_is | kit_is)); (case xsA_a5 => (first | k_is | kit_is)); (case xsA_a6 => (first | k_is | kit_is)); (case xsA_a7 => (first | k_is | kit_is)); (case xsA_a8 => (first | k_is | kit_is)); (case xsA_a9 => (first | k_is | kit_is)); (case xsA_b1 => (first | k_is | kit_is)); (case xsA_b2 => (first | k_is | kit_is)); (case xsA_b3 => (first | k_is | kit_is)); (case xsA_b4 => (first | k_is | kit_is)); (case xsA_b5 => (first | k_is | kit_is)); (case xsR_a => k_is); (case xsR_a1 => kx_is); (case xsR_a2 => kx_is); (case xsR_a3 => k_is); (case xsR_a4 => k_is); (case xsR_a5 => k_is); (case xsR_a6 => k_is); (case xsR_a7 => (refine' Rc.all1 ?xsR_a7f0; (case xsR_a7f0 => k_is))); (case xsR_a8 => k_is); (case xsR_a9 => k_is); (case xsR_b1 => k_is); (case xsR_b2 => k_is); (case xsR_b3 => k_is); (case xsR_b4 => k_is); (case xsR_b5 => ks_is); (case xsR_b6 => k_is); (case xsR_b7 => (first | rfl | decide +kernel)); (case xsR_i1 => k_is); (case xsR_i2 => k_is); (case xsR_i3 => k_is); (case xsR_i4 => k_is); (case xsR_i5 => k_is); (case xsR_i6 => k_is); (case xsR_i7 => rfl); (case xsR_i8 => (first | rfl | decide +kernel)); (case xsT_a => k_is); (case xsT_a1 => kx_is); (case xsT_a2 => kx_is); (case xsT_a3 => k_is); (case xsT_a4 => k_is); (case xsT_a5 => k_is); (case xsT_a6 => k_is); (case xsT_a7 => (refine' Rc.all2 ?xsT_a7f0 ?xsT_a7f1; (case xsT_a7f0 => k_is); (case xsT_a7f1 => k_is))); (case xsT_a8 => k_is); (case xsT_a9 => k_is); (case xsT_b1 => k_is); (case xsT_b2 => k_is); (case xsT_b3 => k_is); (case xsT_b4 => k_is); (case xsT_b5 => ks_is); (case xsT_b6 => k_is); (case xsT_b7 => (first | rfl | decide +kernel)); (case xsT_i1 => k_is); (case xsT_i2 => k_is); (case xsT_i3 => k_is); (case xsT_i4 => k_is); (case xsT_i5 => k_is); (case xsT_i6 => k_is); (case xsT_i7 => rfl); (case xsT_i8 => (first | rfl | decide +kernel)); (case xsu_clN => (first | k_is | kit_is)); (case xsu_obN => (first | k_is | kit_is)); (case xsu_clR => (first | k_is | kit_is)); (case xsu_obR => (first | k_is | kit_is)); (case xsu_clT => (first | k_is | kit_is)); (case xsu_obT => (first | k_is | kit_is)); (case xsu_whS => (first | k_is | kit_is)); (case xsu_moS => (first | k_is | kit_is)); (case xsu_whN => (first | k_is | kit_is)); (case xsu_moN => (first | k_is | kit_is)); (case xsu_whA => (first | k_is | kit_is)); (case xsu_moA => (first | k_is | kit_is)); (case xsu_whR => (first | k_is | kit_is)); (case xsu_moR => (first | k_is | kit_is)); (case xsu_whT => (first | k_is | kit_is)); (case xsu_moT => (first | k_is | kit_is)); (case xsu_s00 => (first | k_is | kit_is)); (case xsu_s01 => (first | k_is | kit_is)); (case xsu_s02 => (first | k_is | kit_is)); (case xsu_s03 => (first | k_is | kit_is)); (case xsu_s04 => (first | k_is | kit_is)); (case xsu_s10 => (first | k_is | kit_is)); (case xsu_s11 => (first | k_is | kit_is)); (case xsu_s12 => (first | k_is | kit_is)); (case xsu_s13 => (first | k_is | kit_is)); (case xsu_s14 => (first | k_is | kit_is)); (case xsu_s20 => (first | k_is | kit_is)); (case xsu_s21 => (first | k_is | kit_is)); (case xsu_s22 => (first | k_is | kit_is)); (case xsu_s23 => (first | k_is | kit_is)); (case xsu_s24 => (first | k_is | kit_is)); (case xsu_s30 => (first | k_is | kit_is)); (case xsu_s31 => (first | k_is | kit_is)); (case xsu_s32 => (first | k_is | kit_is)); (case xsu_s33 => (first | k_is | kit_is)); (case xsu_s34 => (first | k_is | kit_is)); (case xsu_s40 => (first | k_is | kit_is)); (case xsu_s41 => (first | k_is | kit_is)); (case xsu_s42 => (first | k_is | kit_is)); (case xsu_s43 => (first | k_is | kit_is)); (case xsu_s44 => (first | k_is | kit_is)); (case xsu_k00 => (first | k_is | kit_is)); (case xsu_k01 => (first | k_is | kit_is)); (case xsu_k02 => (first | k_is | kit_is)); (case xsu_k03 => (first | k_is | kit_is)); (case xsu_k04 => (first | k_is | kit_is)); (case xsu_k05 => (first | k_is | kit_is)); (case xsu_k10 => (first | k_is | kit_is)); (case xsu_k11 => (first | k_is | kit_is)); (case xsu_k12 => (first | k_is | kit_is)); (case xsu_k13 => (first | k_is | kit_is)); (case xsu_k14 => (first | k_is | kit_is)); (case xsu_k15 => (first | k_is | kit_is)); (case xsu_k20 => (first | k_is | kit_is)); (case xsu_k21 => (first | k_is | kit_is)); (case xsu_k22 => (first | k_is | kit_is)); (case xsu_k23 => (first | k_is | kit_is)); (case xsu_k24 => (first | k_is | kit_is)); (case xsu_k25 => (first | k_is | kit_is)); (case xsu_k30 => (first | k_is | kit_is)); (case xsu_k31 => (first | k_is | kit_is)); (case xsu_k32 => (first | k_is | kit_is)); (case xsu_k33 => (first | k_is | kit_is)); (case xsu_k34 => (first | k_is | kit_is)); (case xsu_k35 => (first | k_is | kit_is)); (case xsu_k40 => (first | k_is | kit_is)); (case xsu_k41 => (first | k_is | kit_is)); (case xsu_k42 => (first | k_is | kit_is)); (case xsu_k43 => (first | k_is | kit_is)); (case xsu_k44 => (first | k_is | kit_is)); (case xsu_k45 => (first | k_is | kit_is)))
    case xTA => (refine' Rc.mkTabN2 KX G ?xTA_a ?xTA_l ?xTA_k ?xTA_w ?xTA_p1 ?xTA_c1 ?xTA_p2 ?xTA_c2 ?xTA_m1 ?xTA_m2; (case xTA_a => k_is); (case xTA_l => k_is); (case xTA_k => exact ⟨⟨_, _, rfl, rfl⟩, ⟨_, _, rfl, rfl⟩, trivial⟩); (case xTA_w => rfl); (case xTA_p1 => k_is); (case xTA_c1 => k_is); (case xTA_p2 => k_is); (case xTA_c2 => k_is); (case xTA_m1 => k_is); (case xTA_m2 => k_is))

