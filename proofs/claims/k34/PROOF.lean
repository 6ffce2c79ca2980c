import PyProof.Rows.All
import Wide.All
import OpenK.AllK
import Wide.FinOn
import HandS.ForMost
import HandS.IsInst
import HandS.WideBits
import PyProof.ReprRoads
import HandS.Walk
import HandS.TupAny
import HandS.TupMul
import HandS.Strs
import HandS.Zip
import HandS.Codes
import HandS.Lambda
import HandS.Iter
import KE.DataMinKey
import HandS.EndTab
import KE.SortKeyHeap
import KE.FramesApart
import HandS.ExcValue
import HandS.More
import HandS.DictComp
import HandS.OwnEq
import HandS.WordsDict
import KE.KNestM
import HandS.Head2
import PySem.Challenge.RW_ringclear_k34_whole_all_rings
set_option Elab.async false
set_option linter.all false
set_option maxRecDepth 100000
namespace Rc
open PySem PySem.Spec PyProof.Rows L2

/-- a promise that is kept where no repr is under way -/
structure FnG (P : Program) (w : World) (K : PySem.W.Frag) (mg : Str → Option Value)
    (base : Heap) (CX : CXT) (k : Nat) (f : Addr) (fd : FuncData) (ps : List Str) (sp : Sp) : Prop where
  len : ∀ vs H Q E, sp vs H Q E → vs.length = ps.length
  go : ∀ (A : Around) (outer : List Env) (s : Shared) (H : Hp) (args : Args) (us : List Value)
    (vs : List V) (Q : VK) (E : XK), Room k A → A.guards = some [] →
    Env0 P w K mg base A outer s H → BindsTo s fd args (ps.zip us) → Vals vs us → sp vs H Q E →
    codeAny (model P w) A (.call (.ref f) args) (CR CX outer P w H s Q E) s

section
variable {P : Program} {w : World} {K : PySem.W.Frag} {mg : Str → Option Value} {base : Heap}

theorem FnG.of {CX : CXT} {k : Nat} {f : Addr} {fd : FuncData} {ps : List Str} {sp : Sp}
    (F : FnOk P w K mg base CX k f fd ps sp) : FnG P w K mg base CX k f fd ps sp :=
  ⟨F.len, fun A outer s H args us vs Q E hr _ e0 hb r h =>
    F.run A outer s H args us vs Q E hr e0 hb r h⟩

/-- a def by its body, no repr being under way -/
theorem okG {CX : CXT} {x qual : Str} {st : Stmt} {f : Addr} {fd : FuncData} {N ps : List Str} {k : Nat} {sp : Sp}
    (F : Fun K x qual st f fd) (S : FnScope N ps (defScope st))
    (len : ∀ vs H Q E, sp vs H Q E → vs.length = ps.length)
    (body : ∀ (cdv : Value) (A : Around) (outer : List Env) (s : Shared) (H : Hp) (vs : List V) (Q : VK) (E : XK),
      Room k (A.deeper (envOfC qual (defScope st) s.heap.objs.size f cdv)) → A.guards = some [] → sp vs H Q E →
      ∃ t, PSs (cxOf CX P w K mg base N qual (defScope st) f cdv A outer s H E) (defBody st) t ∧
        t { nx := fun _ H' => Q .non H', rt := Q } (start N vs) H) :
    FnG P w K mg base CX (k + 1) f fd ps sp := by
  obtain ⟨oc, od, kV, doc, pm, an, cdv, ct, osl, rfl, lk, hcd⟩ := F.ex
  refine ⟨len, fun A outer s H args us vs Q E hr hg e0 hb r hsp => ?_⟩
  have hl := len vs H Q E hsp
  have keep : ∀ b o, base.get? b = some o → s.heap.get? b = some o := fun b o e => (e0.bs b o e).1
  have KX : K.In s.heap := e0.mod.kin.keeps keep
  refine codeAny_call_function hr.depth (KX _ _ lk) rfl S.co S.gen rfl
    (PySem.W.codeRec_of KX hcd) (hb _ _ _ _ ?_)
  refine wpAny_newFunctionEnv_cells S.kind (fun y hy => ?_) fun env he s1 x => ?_
  · obtain ⟨n, v⟩ := y
    exact (S.par n (List.of_mem_zip hy).1).elim .inl fun q => .inr ⟨q, PySem.W.cellsFrom_some _ _ _ (.inl q)⟩
  · subst he
    refine ⟨(e0.mod.nolimit.keeps keep).keeps x.toInCall.keep, codeAny_func ?_⟩
    obtain ⟨t, ht, hq⟩ := body cdv A outer s H vs Q E (hr.deeper _) hg hsp
    have I := inv_start (CX := CX) (E := E) S hr.hd e0 hl r x
    refine wpAny_mono (ht.run [] s1 (start N vs) H _ I hq) (fun fl s' hs => ?_) fun _ _ z => z
    cases fl with
    | ret u =>
      obtain ⟨v, σ', H', J, rv, q⟩ := hs
      exact ⟨v, H', J.os, J.bare, J.base, J.hok, rv, q⟩
    | next =>
      obtain ⟨σ', H', J, q⟩ := hs
      exact ⟨.non, H', J.os, J.bare, J.base, J.hok, rfl, q⟩
    | brk =>
      obtain ⟨_, _, _, q⟩ := hs
      exact q.elim
    | cont =>
      obtain ⟨_, _, _, q⟩ := hs
      exact q.elim
/-- .. where nothing that is raised leaves it -/
theorem okG0 {x qual : Str} {st : Stmt} {f : Addr} {fd : FuncData} {N ps : List Str} {k : Nat} {sp : Sp}
    (F : Fun K x qual st f fd) (S : FnScope N ps (defScope st))
    (len : ∀ vs H Q E, sp vs H Q E → vs.length = ps.length)
    (body : ∀ (cdv : Value) (A : Around) (outer : List Env) (s : Shared) (H : Hp) (vs : List V) (Q : VK) (E : XK),
      Room k (A.deeper (envOfC qual (defScope st) s.heap.objs.size f cdv)) → A.guards = some [] → sp vs H Q E →
      ∃ t, PSs (cxOf CX0 P w K mg base N qual (defScope st) f cdv A outer s H E).nox (defBody st) t ∧
        t { nx := fun _ H' => Q .non H', rt := Q } (start N vs) H) :
    FnG P w K mg base CX0 (k + 1) f fd ps sp :=
  okG F S len fun cdv A outer s H vs Q E hr hg h =>
    let ⟨t, a, b⟩ := body cdv A outer s H vs Q E hr hg h
    ⟨t, a.nox, b⟩
end

section
variable {X : Cx} {CX : CXT} {k : Nat} {f : Addr} {fd : FuncData} {ps : List Str} {sp : Sp} {E : XK} {x : Str}
  {p pos : Pos} {e : Expr} {es : List Expr} {t : TA}

theorem runG {pins : List (Addr × Obj)} {σ : L2.St} {H : Hp} {s : Shared} {Q : VK} {us : List Value} {vs : List V} {ds : List Value} {dvs : List V}
    (F : FnG X.prog X.w X.K X.mg X.base CX k f fd ps sp) (hr : Room k X.A) (hg : X.A.guards = some [])
    (hb : Binds X.K fd ps ds) (hd : Vals dvs ds) (hx : Passes CX X E) (I : Inv X pins σ H s) (r : Vals vs us)
    (h : sp (vs ++ dvs) H Q E) :
    wpAny (model X.prog X.w) X.A (call (.ref f) us) (EP X pins σ Q) X.xe s := by
  have r2 : Vals (vs ++ dvs) (us ++ ds) := r.append hd
  have hl : (us ++ ds).length = ps.length := r2.length.symm.trans (F.len _ _ _ _ h)
  refine wpAny_call (codeAny_mono (F.go X.A X.stack s H ⟨us, []⟩ (us ++ ds) (vs ++ dvs) Q E hr hg
    I.env0 (hb s us I.kIn hl) r2 h) fun r s' hq => ?_)
  match r, hq with
  | .error e, hq => exact hx pins σ H s e s' I hq
  | .ok (.ret u), hq => exact I.after hq
  | .ok .next, hq => exact hq.elim
  | .ok .brk, hq => exact hq.elim
  | .ok .cont, hq => exact hq.elim

theorem pe_callG {ds : List Value} {dvs : List V} (F : FnG X.prog X.w X.K X.mg X.base CX k f fd ps sp) (hr : Room k X.A)
    (gd : X.A.guards = some []) (hg : Gl X x) (hm : X.mg x = some (.ref f)) (hk : PySem.W.keepIn X.K (.ref f) = true)
    (hb : Binds X.K fd ps ds) (hd : Vals dvs ds) (hx : Passes CX X E) (ha : PA X (e :: es) t)
    (hdb : (x == ("__debug__" : Str)) = false := by decide)
    (he : starEach (e :: es) X.env = (false, eval e X.env) :: starEach es X.env := by rfl)
    (hpl : (backTo pos (starEach es X.env)).any (·.1) = false := by rfl) :
    PE X (.Call (.Name x p) (e :: es) [] pos) (tCall sp dvs E t) := by
  refine ⟨fun pins s σ H Q I h => wpAny_Call_Name_kw (ld_glob I hg hm ?_ hdb)⟩
  refine PySem.W.callWith_K (h₀ := X.base) I.ok.mod.kin hk ?_ he hpl
  refine thn (ha.run pos pins s σ H _ I h) fun us s1 z => ?_
  obtain ⟨vs, H1, I1, r, q⟩ := z
  exact ⟨I1.kIn, runG F hr gd hb hd hx I1 r q⟩

/-- f(k = v, ..), no value by place -/
def tCallKw (sp : Sp) (E : XK) (n : Nat) (tk : TA) : TE := fun σ H Q => tk σ H fun zs H2 => zs.length = n ∧ sp zs H2 Q E
theorem pe_callKw {ks : List Str} {kws : List Keyword} {tk : TA} (F : FnOk X.prog X.w X.K X.mg X.base CX k f fd ps sp)
    (hr : Room k X.A) (hg : Gl X x) (hm : X.mg x = some (.ref f)) (hk : PySem.W.keepIn X.K (.ref f) = true)
    (hb : ∀ (s : Shared) (ws : List Value), ws.length = ks.length → BindsTo s fd ⟨[], ks.zip ws⟩ (ps.zip ws)) (hx : Passes CX X E)
    (hkw : PK X kws tk) (hall : (backToKw pos (keywordEach kws X.env)).all (·.1.isSome) = true := by rfl)
    (hks : (backToKw pos (keywordEach kws X.env)).filterMap (·.1) = ks := by rfl)
    (hdb : (x == ("__debug__" : Str)) = false := by decide)
    (hpl : ((backTo pos (starEach [] X.env)).any (·.1) || (backToKw pos (keywordEach kws X.env)).any (·.1.isNone)) = false := by rfl) :
    PE X (.Call (.Name x p) [] kws pos) (tCallKw sp E ks.length tk) := by
  refine ⟨fun pins s σ H Q I h => wpAny_Call_Name_kw (ld_glob I hg hm ?_ hdb)⟩
  refine PySem.W.callWith_KW0 (h₀ := X.base) I.ok.mod.kin hk hall ?_ hpl
  refine thn (hkw.run pos pins s σ H _ I h) fun ws s2 z => ?_
  obtain ⟨zs, H2, I2, rz, l, q⟩ := z
  refine ⟨I2.kIn, ?_⟩
  rw [hks]
  refine wpAny_call (codeAny_mono (F.run X.A X.stack s2 H2 ⟨[], ks.zip ws⟩ ws zs Q E hr I2.env0
    (hb s2 ws (rz.length.symm.trans l)) rz q) fun r s' hq => ?_)
  match r, hq with
  | .error e, hq => exact hx pins σ H2 s2 e s' I2 hq
  | .ok (.ret u), hq => exact I2.after hq
  | .ok .next, hq => exact hq.elim
  | .ok .brk, hq => exact hq.elim
  | .ok .cont, hq => exact hq.elim
end

/-! ### repr -/
/-- no object -/
inductive Flat : V → PyData → Prop
  | non : Flat .non .none
  | bl (b : Bool) : Flat (.bl b) (.bool b)
  | int (i : Int) : Flat (.int i) (.int i)
  | str (x : Str) : Flat (.str x) (.str x)
inductive Flats : List V → List PyData → Prop
  | nil : Flats [] []
  | cons {v : V} {vs : List V} {d : PyData} {ds : List PyData} : Flat v d → Flats vs ds → Flats (v :: vs) (d :: ds)
mutual
/-- data that stands in the heap: none, truths, ints, texts, lists, tuples, dicts with int and text keys -/
inductive Dt (K : PySem.W.Frag) (H : Hp) : V → PyData → Prop
  | non : Dt K H .non .none
  | bl (b : Bool) : Dt K H (.bl b) (.bool b)
  | int (i : Int) : Dt K H (.int i) (.int i)
  | str (x : Str) : Dt K H (.str x) (.str x)
  | lst {a : Addr} {xs : List V} {ds : List PyData} : SqL K H a xs → DtAll K H xs ds → Dt K H (.ref a) (.list ds)
  | tup {a : Addr} {xs : List V} {ds : List PyData} : SqT K H a xs → DtAll K H xs ds → Dt K H (.ref a) (.tuple ds)
  | dct {a : Addr} {kvs : List (Key × V)} {ps : List (PyData × PyData)} : H a = some (.dK kvs) →
      Flats (kvs.map fun p => kV p.1) (ps.map (·.1)) → Flats (kvs.map (·.2)) (ps.map (·.2)) →
      Dt K H (.ref a) (.dict ps)
inductive DtAll (K : PySem.W.Frag) (H : Hp) : List V → List PyData → Prop
  | nil : DtAll K H [] []
  | cons {v : V} {vs : List V} {d : PyData} {ds : List PyData} : Dt K H v d → DtAll K H vs ds → DtAll K H (v :: vs) (d :: ds)
end

theorem Flat.reads {h : Heap} {v : V} {d : PyData} {u : Value} (f : Flat v d) (r : RelV v u) : Reads h u d [] := by
  cases f with
  | non => cases r; exact .none
  | bl b => cases r; exact .bool b
  | int i => obtain ⟨t, rfl⟩ := r; exact .int i t
  | str x => obtain ⟨t, rfl⟩ := r; exact .str x t
theorem Flats.reads {h : Heap} : ∀ {vs : List V} {ds : List PyData} {us : List Value}, Flats vs ds → Vals vs us → ReadsAll h us ds []
  | _, _, _, .nil, .nil => .nil
  | _, _, _, .cons f fs, .cons r rs => .cons (f.reads r) (fs.reads rs)
theorem keys_rel {P : Program} {w : World} : ∀ {es : List DictEntry} {vs : List (Key × Value)} {kvs : List (Key × V)}, Pairs (mixKind P w) es vs → KV kvs vs →
    Vals (kvs.map fun p => kV p.1) (es.map (·.key)) ∧ Vals (kvs.map (·.2)) (es.map (·.val))
  | [], _, _, .nil, .nil => ⟨.nil, .nil⟩
  | e :: es, (k, x) :: vs, (k', y) :: kvs, .cons h1 h2 hp, .cons r rs => by
    obtain ⟨a, b⟩ := keys_rel hp rs
    obtain ⟨e1, e2⟩ := r
    have e1' : k' = k := e1
    subst e1'
    refine ⟨.cons ?_ a, .cons ?_ b⟩
    · rcases keyIs_shape h1 with ⟨i, t, q1, q2⟩ | ⟨z, t, q1, q2⟩
      · have q1' : k' = Sum.inl i := q1
        subst q1'
        exact ⟨t, q2⟩
      · have q1' : k' = Sum.inr z := q1
        subst q1'
        exact ⟨t, q2⟩
    · show L2.RelV y e.val
      rw [h2]
      exact e2
section
variable {X : Cx} {pins : List (Addr × Obj)} {σ : L2.St} {H : Hp} {s : Shared}
/-- a dict alone may hold a dict (itself) -/
def DictTop (d : PyData) : Prop := d.hasDict = false ∨ ∃ ps, d = .dict ps
mutual
theorem Dt.reads (I : Inv X pins σ H s) : ∀ (d : PyData) (v : V) (u : Value), Dt X.K H v d → RelV v u →
    ∃ as, Reads s.heap u d as ∧ ((∃ ps, d = .dict ps) → sysModules ∉ as)
  | .none, _, _, h, r => by
    cases h; cases r
    exact ⟨_, .none, fun z => by obtain ⟨_, z⟩ := z; cases z⟩
  | .bool b, _, _, h, r => by
    cases h; cases r
    exact ⟨_, .bool b, fun z => by obtain ⟨_, z⟩ := z; cases z⟩
  | .int i, _, _, h, r => by
    cases h
    obtain ⟨t, rfl⟩ := r
    exact ⟨_, .int i t, fun z => by obtain ⟨_, z⟩ := z; cases z⟩
  | .str x, _, _, h, r => by
    cases h
    obtain ⟨t, rfl⟩ := r
    exact ⟨_, .str x t, fun z => by obtain ⟨_, z⟩ := z; cases z⟩
  | .list ds, _, _, h, r => by
    cases h with
    | lst hs ha =>
      cases r
      obtain ⟨its, rv, ⟨o, n, ho, hc, _, hd⟩, _⟩ := I.list hs
      obtain ⟨as, q⟩ := Dt.readsAll I ds _ its ha rv
      exact ⟨_, .list ho hc hd q, fun z => by obtain ⟨_, z⟩ := z; cases z⟩
  | .tuple ds, _, _, h, r => by
    cases h with
    | tup hs ha =>
      cases r
      obtain ⟨its, rv, ⟨o, ho, hc, n, hd⟩, _⟩ := I.tuple hs
      obtain ⟨as, q⟩ := Dt.readsAll I ds _ its ha rv
      exact ⟨_, .tuple ho hc hd q, fun z => by obtain ⟨_, z⟩ := z; cases z⟩
  | .dict ps, _, _, h, r => by
    cases h with
    | dct e fk fv =>
      cases r
      obtain ⟨_, ns, vs, kv, o, es, ep, ho, hx, hd, _, hp, _⟩ := I.hok _ _ e
      obtain ⟨a, b⟩ := keys_rel hp kv
      refine ⟨_, .dict ho hx.1 hd (fk.reads a) (fv.reads b), fun _ z => ?_⟩
      have z' := List.mem_singleton.mp (by simpa using z)
      rw [← z'] at ns
      simp at ns
theorem Dt.readsAll (I : Inv X pins σ H s) : ∀ (ds : List PyData) (vs : List V) (us : List Value), DtAll X.K H vs ds → Vals vs us → ∃ as, ReadsAll s.heap us ds as
  | [], _, _, h, r => by
    cases h; cases r
    exact ⟨_, .nil⟩
  | d :: ds, _, _, h, r => by
    cases h with
    | cons h1 h2 =>
      cases r with
      | cons r1 r2 =>
        obtain ⟨as, q1, _⟩ := Dt.reads I d _ _ h1 r1
        obtain ⟨bs, q2⟩ := Dt.readsAll I ds _ _ h2 r2
        exact ⟨_, .cons q1 q2⟩
end
end
section
variable {X : Cx}
def rRepr (K : PySem.W.Frag) : List V → Hp → VK → Prop := fun xs H Q => ∃ v d, xs = [v] ∧ Dt K H v d ∧ d.showable = true ∧ DictTop d ∧ d.depth ≤ 20 ∧ ((∃ i, d = .int i) ∨ d.shown.length ≤ sizeLine) ∧ Q (.str d.shown) H
theorem notInt {d : PyData} {A : Prop} (h : (∃ i, d = .int i) ∨ A) (n : ∀ i, d ≠ .int i) : A := h.elim (fun z => let ⟨i, e⟩ := z; absurd e (n i)) id
theorem call_repr {k : Nat} (hr : Room k X.A) (hg : X.A.guards = some []) : CallR X (.builtin "repr") (rRepr X.K) := by
  intro pins s σ H xs us Q I r h
  obtain ⟨v, d, rfl, hd, hs, ht, hp, hz, q⟩ := h
  obtain ⟨u, rfl, ru⟩ := vals1 r
  obtain ⟨as, rd, nsm⟩ := Dt.reads I d v u hd ru
  have hu := hr.units
  have big : ∀ a, u = .ref a → d.shown.length ≤ sizeLine → wpAny (model X.prog X.w) X.A (call (.builtin "repr") [u]) (EP X pins σ Q) X.xe s := by
    rintro a rfl hz
    refine repr_of_reads' rd hs (fun hx => ?_) hg (by omega) (fun _ _ e => e) (fun h' t tk hk => ?_) hz
    · rcases ht with z | z
      · rw [z] at hx; cases hx
      · exact nsm z
    · exact ⟨.str _, H, I.kept hk, ⟨t, rfl⟩, q⟩
  cases hd with
  | non => cases ru; exact PySem.P.repr_of_none ⟨.str _, H, I.tok _, ⟨_, rfl⟩, q⟩
  | bl b => cases ru; exact PySem.P.repr_of_bool ⟨.str _, H, I.tok _, ⟨_, rfl⟩, q⟩
  | int i =>
    obtain ⟨t, rfl⟩ := ru
    exact PySem.P.repr_of_int (by simpa [PyData.showable] using hs) ⟨.str _, H, I.tok _, ⟨_, rfl⟩, by simpa [PyData.shown] using q⟩
  | str x =>
    obtain ⟨t, rfl⟩ := ru
    exact PySem.P.repr_of_str ⟨.str _, H, I.tok _, ⟨_, rfl⟩, by simpa [PyData.shown] using q⟩ (by simpa [PyData.shown] using notInt hz (fun _ z => nomatch z))
  | lst _ _ => exact big _ ru (notInt hz fun _ z => nomatch z)
  | tup _ _ => exact big _ ru (notInt hz fun _ z => nomatch z)
  | dct _ _ _ => exact big _ ru (notInt hz fun _ z => nomatch z)
end

/-! ### the law's own call -/
section
open PySem.W
/-- the abstract heap at the law's entry: the script alone, locked, or nothing where it is the module's own -/
def entryH (K : Frag) (a : Addr) (o : Obj) (xs : List V) : Hp := fun b => if b = a ∧ K.lookup a = none then some (.frz o (.lst xs)) else none
theorem entryH_at {K : Frag} {a b : Addr} {o : Obj} {xs : List V} {u : HO} (h : entryH K a o xs b = some u) : b = a ∧ K.lookup a = none ∧ u = .frz o (.lst xs) := by
  unfold entryH at h
  split at h
  · rename_i c
    exact ⟨c.1, c.2, (Option.some.inj h).symm⟩
  · cases h
theorem law_callG {P : Program} {w : World} {K : Frag} {mg mb : Str → Option Value} {CX : CXT} {k : Nat} {fa a : Addr} {fd : FuncData}
    {x : Str} {sp : Sp} {s₁ : Shared} {vs : List Value} {ns : List Int}
    (KX : K.In s₁.heap) (hns : s₁.heap.Ns mainGlobals mg) (hb : s₁.heap.Ns builtinsNs mb)
    (hbb : ∀ x : Str, x ≠ "__name__" → mb x = bootBuiltins x) (hlim : s₁.heap.NoLimit) (hg : s₁.gens = #[])
    (ha : s₁.heap.get? a = some { cls := .type "list", data := .seq vs.toArray }) (hi : IntsAre vs ns)
    (hl : ns.length ≤ sizeLine) (hr : Room k callerA)
    (F : ∀ base : Heap, K.In base → base.Ns mainGlobals mg → FnG P w K mg base CX k fa fd [x] sp)
    (hbind : ∀ (s : Shared) (u : Value), BindsTo s fd ⟨[u], []⟩ [(x, u)])
    (hsp : ∀ H : Hp, Only H → SqL K H a (ns.map V.int) → sp [.ref a] H (fun v _ => v = .bl true) fun _ _ _ => False)
    (hCX : ∀ H e s', CX [] H s₁ (fun _ _ _ => False) e s' → False) :
    codeAny (model P w) callerA (.call (.ref fa) ⟨[.ref a], []⟩)
      (fun r s' => r = .ok (.ret (.bool true)) ∧ OldK s₁.heap s'.heap ∧ s'.os = s₁.os ∧ AllBare s'.gens) s₁ := by
  have rv := vals_ints hi
  have lv := hi.length
  generalize hH : entryH K a { cls := .type "list", data := .seq vs.toArray } (ns.map V.int) = H
  have hat : ∀ {b : Addr} {u : HO}, H b = some u → b = a ∧ K.lookup a = none ∧ u = .frz { cls := .type "list", data := .seq vs.toArray } (.lst (ns.map V.int)) :=
    fun {b u} e => entryH_at (by rw [hH]; exact e)
  have only : Only H := fun b => by
    cases q : H b with
    | none => exact .inl rfl
    | some u =>
      obtain ⟨_, _, rfl⟩ := hat q
      exact .inr ⟨_, _, rfl⟩
  have sq : SqL K H a (ns.map V.int) := by
    cases hk : K.lookup a with
    | none =>
      refine .inl (.inr ⟨{ cls := .type "list", data := .seq vs.toArray }, ?_⟩)
      rw [← hH]
      exact if_pos ⟨rfl, hk⟩
    | some o =>
      have e := KX a o hk
      rw [ha] at e
      cases e
      exact .inr ⟨_, vs.toArray, _, hk, rfl, rfl, rfl, by rw [List.size_toArray, lv]; exact hl, by simpa using rv⟩
  have hok : HOk P w H s₁.heap := fun b u e => by
    obtain ⟨rfl, _, rfl⟩ := hat e
    exact ⟨ha, by rw [List.length_map]; exact hl, vs, _, rv, ha⟩
  have dictFree : ∀ {b : Addr} {o : Obj} {es : Array DictEntry} {ep : Nat}, s₁.heap.get? b = some o → o.data = .dict es ep → H b = none := fun {b o es ep} e d => by
    cases q : H b with
    | none => rfl
    | some u =>
      obtain ⟨rfl, _, _⟩ := hat q
      rw [ha] at e
      cases e
      cases d
  have nsK : ∀ {b : Addr} {m : Str → Option Value}, s₁.heap.Ns b m → (hidT s₁.heap H).Ns b m :=
    fun {b m} z => let ⟨o, es, ep, e, d, r⟩ := z; ⟨o, es, ep, hidT_get e (dictFree e d), d, r⟩
  have kb : K.In (hidT s₁.heap H) := fun b o e => hidT_get (KX b o e) (by
    cases q : H b with
    | none => rfl
    | some u =>
      obtain ⟨rfl, z, _⟩ := hat q
      rw [z] at e
      cases e)
  have md : Mod K mg (hidT s₁.heap H) := ⟨kb, nsK hns, ⟨mb, nsK hb, hbb⟩, let ⟨mc, h1, h2⟩ := hlim; ⟨mc, nsK h1, h2⟩⟩
  have e0 : Env0 P w K mg (hidT s₁.heap H) callerA [] s₁ H :=
    { frames := rfl, mod := md, bs := fun b o e => of_hidT e, bsz := Nat.le_of_eq (hidT_size _ _), funs := trivial, frf := fun b z => absurd (show b ∈ ([] : List Addr) from z) (by simp), hok := hok, bare := .of_eq hg }
  refine codeAny_mono ((F _ kb (nsK hns)).go callerA [] s₁ H ⟨[.ref a], []⟩ [.ref a] [.ref a] _ _ hr rfl e0 (hbind s₁ (.ref a)) (.cons rfl .nil) (hsp H only sq)) fun r s' h => ?_
  match r, h with
  | .error e, h => exact (hCX H e s' h).elim
  | .ok .next, h => exact h.elim
  | .ok .brk, h => exact h.elim
  | .ok .cont, h => exact h.elim
  | .ok (.ret u), h =>
    obtain ⟨v, H', os, bare, un, hok', r', q⟩ := h
    have q' : v = .bl true := q
    subst q'
    obtain rfl : u = Value.bool true := r'
    refine ⟨rfl, OldK.of_keep fun b o e => ?_, os, bare⟩
    cases z : H b with
    | none => exact un.keep b o e z (fun y => absurd (show b ∈ ([] : List Addr) from y) (by simp)) (by simp)
    | some u =>
      obtain ⟨rfl, _, rfl⟩ := hat z
      have z2 := un.frzs _ _ _ z
      have e2 := (hok' _ _ z2).1
      rw [ha] at e
      cases e
      exact e2
/-- as walk_of, no repr being under way -/
theorem walk_ofG {l : OpenLaw} {n k : Nat} {q : Program} {loose : List Str} {XP : (Str → Option Value) → Heap → Prop} {YP : World → Heap → Prop}
    {d : DefRec} {K : Params → Frag} {CX : World → CXT} {sp : World → Sp} {x : Str}
    (hn : l.most = some n) (hn2 : n ≤ sizeLine) (hdf : d.params.defaults = []) (hr : Room k callerA)
    (hY : ∀ (w : World) (h : Heap), YP w h → (K w.params).In h)
    (F : ∀ (w : World) (mg : Str → Option Value) (fa : Addr) (h : Heap), (K w.params).In h → h.Ns mainGlobals mg →
      mg d.name = some (.ref fa) → ∃ fd : FuncData, (∀ (s : Shared) (u : Value), BindsTo s fd ⟨[u], []⟩ [(x, u)]) ∧
        ∀ base : Heap, (K w.params).In base → base.Ns mainGlobals mg → FnG l.prog w (K w.params) mg base (CX w) k fa fd [x] (sp w))
    (hsp : ∀ (w : World) (H : Hp) (a : Addr) (ns : List Int), ns.length ≤ n → Only H → SqL (K w.params) H a (ns.map V.int) →
      sp w [.ref a] H (fun v _ => v = .bl true) fun _ _ _ => False)
    (hCX : ∀ (w : World) (H : Hp) (s : Shared) (e : Value) (s' : Shared), CX w [] H s (fun _ _ _ => False) e s' → False) :
    WalkO q loose XP YP l.row.toRowW d [] (fun f vs => PySem.call f vs) := by
  refine Att.attach_call hn hdf fun w s₀ s₁ mg mb fa o pm cd doc a vs ns G Y ho hd hcd hmg hobj hints hlen hg => ?_
  obtain ⟨fd, b1, b2⟩ := F w mg fa _ (hY w _ Y) G.T.g hmg
  exact law_callG (hY w _ Y) G.T.g G.T.b G.T.builtins G.T.nolimit hg hobj hints (Nat.le_trans hlen hn2) hr b2 b1
    (fun H hO hS => hsp w H a ns hlen hO hS) fun H e s' => hCX w H s₁ e s'
end
end Rc

set_option exponentiation.threshold 400
namespace Rc
open PySem PySem.Spec PyProof.Rows L2
/-! ### the mathematics -/
def abc : List Nat := (List.range 26).map (· + 97)
def nameT (z : Str) : Bool := decide (1 ≤ z.length) && decide (z.length ≤ 8) && z.cps.toList.all fun c => decide (c ∈ abc)
def nameD : PyData → Bool
  | .str z => nameT z
  | _ => false
def wholeD : PyData → Bool
  | .int _ => true
  | _ => false
def amountD : PyData → Bool
  | .int i => decide (1 ≤ i)
  | _ => false
def tyD : PyData → String
  | .none => "NoneType"
  | .bool _ => "bool"
  | .int _ => "int"
  | .str _ => "str"
  | .list _ => "list"
  | .tuple _ => "tuple"
  | .dict _ => "dict"
def strD : PyData → Bool
  | .str _ => true
  | _ => false
def boolD : PyData → Bool
  | .bool _ => true
  | _ => false
theorem Dt.ty {K : PySem.W.Frag} {H : Hp} {v : V} {d : PyData} (h : Dt K H v d) : TyX K H v (.type (tyD d)) := by
  cases h with
  | non => exact .base .non
  | bl b => exact .base (.bl b)
  | int i => exact .base (.int i)
  | str x => exact .base (.str x)
  | lst q _ =>
    rcases q with (q | ⟨o, q⟩) | ⟨o, its, n, hk, hc, _⟩
    · exact .base (.lst q)
    · exact .base (.frz q)
    · exact .kList hk hc
  | tup q _ =>
    rcases q with (q | ⟨o, q⟩) | ⟨o, its, n, hk, hc, _⟩
    · exact .base (.tup q)
    · exact .fTuple q
    · exact .kTuple hk hc
  | dct q _ _ => exact .base (.dK q)
theorem kit_str {K : PySem.W.Frag} (d : PyData) : PySem.W.kitOne K (.type (tyD d)) (.type "str") = some (strD d) :=
  match d with
  | PyData.none => kit_ty (a := "NoneType") (b := "str") (r := false) (by decide +kernel)
  | .bool _ => kit_ty (a := "bool") (b := "str") (r := false) (by decide +kernel)
  | .int _ => kit_ty (a := "int") (b := "str") (r := false) (by decide +kernel)
  | .str _ => kit_ty (a := "str") (b := "str") (r := true) (by decide +kernel)
  | .list _ => kit_ty (a := "list") (b := "str") (r := false) (by decide +kernel)
  | .tuple _ => kit_ty (a := "tuple") (b := "str") (r := false) (by decide +kernel)
  | .dict _ => kit_ty (a := "dict") (b := "str") (r := false) (by decide +kernel)
theorem kit_int {K : PySem.W.Frag} (d : PyData) : PySem.W.kitOne K (.type (tyD d)) (.type "int") = some (wholeD d || boolD d) :=
  match d with
  | PyData.none => kit_ty (a := "NoneType") (b := "int") (r := false) (by decide +kernel)
  | .bool _ => kit_ty (a := "bool") (b := "int") (r := true) (by decide +kernel)
  | .int _ => kit_ty (a := "int") (b := "int") (r := true) (by decide +kernel)
  | .str _ => kit_ty (a := "str") (b := "int") (r := false) (by decide +kernel)
  | .list _ => kit_ty (a := "list") (b := "int") (r := false) (by decide +kernel)
  | .tuple _ => kit_ty (a := "tuple") (b := "int") (r := false) (by decide +kernel)
  | .dict _ => kit_ty (a := "dict") (b := "int") (r := false) (by decide +kernel)
theorem kit_bool {K : PySem.W.Frag} (d : PyData) : PySem.W.kitOne K (.type (tyD d)) (.type "bool") = some (boolD d) :=
  match d with
  | PyData.none => kit_ty (a := "NoneType") (b := "bool") (r := false) (by decide +kernel)
  | .bool _ => kit_ty (a := "bool") (b := "bool") (r := true) (by decide +kernel)
  | .int _ => kit_ty (a := "int") (b := "bool") (r := false) (by decide +kernel)
  | .str _ => kit_ty (a := "str") (b := "bool") (r := false) (by decide +kernel)
  | .list _ => kit_ty (a := "list") (b := "bool") (r := false) (by decide +kernel)
  | .tuple _ => kit_ty (a := "tuple") (b := "bool") (r := false) (by decide +kernel)
  | .dict _ => kit_ty (a := "dict") (b := "bool") (r := false) (by decide +kernel)
theorem same_upd {H : Hp} {p : Addr} {o : HO} (h : H p = none) : Same H (upd H p o) := fun b x e => by
  rw [upd_ne (ne_of_none e h)]
  exact e
mutual
theorem Dt.same {K : PySem.W.Frag} {H H' : Hp} (e : Same H H') : ∀ {v : V} (d : PyData), Dt K H v d → Dt K H' v d
  | _, .none, h => by cases h; exact .non
  | _, .bool _, h => by cases h; exact .bl _
  | _, .int _, h => by cases h; exact .int _
  | _, .str _, h => by cases h; exact .str _
  | _, .list ds, h => by
    cases h with
    | lst q a => exact .lst (e.seq q) (DtAll.same e ds a)
  | _, .tuple ds, h => by
    cases h with
    | tup q a =>
      refine .tup ?_ (DtAll.same e ds a)
      rcases q with (q | ⟨o, q⟩) | q
      · exact .inl (.inl (e _ _ q))
      · exact .inl (.inr ⟨o, e _ _ q⟩)
      · exact .inr q
  | _, .dict ps, h => by
    cases h with
    | dct q a b => exact .dct (e _ _ q) a b
theorem DtAll.same {K : PySem.W.Frag} {H H' : Hp} (e : Same H H') : ∀ {vs : List V} (ds : List PyData), DtAll K H vs ds → DtAll K H' vs ds
  | _, [], h => by cases h; exact .nil
  | _, d :: ds, h => by
    cases h with
    | cons a b => exact .cons (Dt.same e d a) (DtAll.same e ds b)
end
theorem iteNot {b : Bool} {A B : Prop} (e : ¬ b = true) (h : B) : if b = true then A else B := by
  rw [if_neg e]
  exact h
theorem letters_abc : (("abcdefghijklmnopqrstuvwxyz" : String) : Str).cps.toList = abc := by decide +kernel
/-- a text that is short enough -/
def ShortD (d : PyData) : Prop := ∀ z, d = .str z → z.length ≤ 1000
theorem small_line {n : Nat} (h : n ≤ 1000) : n ≤ sizeLine := Nat.le_of_lt (small1000 h)
/-! ### written data -/
theorem PE.of {X : Cx} {e : Expr} {t t' : TE} (h : PE X e t) (i : ∀ σ H Q, t' σ H Q → t σ H Q) : PE X e t' :=
  ⟨fun pins s σ H Q I q => h.run pins s σ H Q I (i σ H Q q)⟩
theorem PA.of {X : Cx} {es : List Expr} {t t' : TA} (h : PA X es t) (i : ∀ σ H Q, t' σ H Q → t σ H Q) : PA X es t' :=
  ⟨fun pos pins s σ H Q I q => h.run pos pins s σ H Q I (i σ H Q q)⟩
/-- what stands in H' and did not in H -/
def minus (H' H : Hp) : Hp := fun b => if H b = none then H' b else none
theorem minus_some {H' H : Hp} {b : Addr} {o : HO} (h : minus H' H b = some o) : H b = none ∧ H' b = some o := by
  unfold minus at h
  split at h
  · rename_i c
    exact ⟨c, h⟩
  · cases h
theorem minus_mk {H' H : Hp} {b : Addr} {o : HO} (h : H b = none) (h' : H' b = some o) : minus H' H b = some o := by
  unfold minus
  rw [if_pos h]
  exact h'
theorem minus_sub {H' H : Hp} : Same (minus H' H) H' := fun _ _ e => (minus_some e).2
theorem minus_l {H H1 H2 : Hp} (s : Same H1 H2) : Same (minus H1 H) (minus H2 H) := fun b o e => minus_mk (minus_some e).1 (s b o (minus_some e).2)
theorem minus_r {H H1 H2 : Hp} (s : Same H H1) : Same (minus H2 H1) (minus H2 H) := fun b o e => minus_mk (s.free (minus_some e).1) (minus_some e).2
theorem minus_at {H H1 : Hp} {p : Addr} {o : HO} (s : Same H H1) (h : H1 p = none) : minus (upd H1 p o) H p = some o := minus_mk (s.free h) upd_same
/-- an expression that gives the datum d, of new objects alone, all else as it was -/
def tLit (K : PySem.W.Frag) (d : PyData) : TE := fun _ H Q => ∀ v H', Same H H' → Dt K (minus H' H) v d → Q v H'
def tLits (K : PySem.W.Frag) (ds : List PyData) : TA := fun _ H Q => ∀ vs H', Same H H' → DtAll K (minus H' H) vs ds → Q vs H'
theorem DtAll.len {K : PySem.W.Frag} {H : Hp} : ∀ {vs : List V} {ds : List PyData}, DtAll K H vs ds → vs.length = ds.length
  | _, _, .nil => rfl
  | _, _, .cons _ t => by rw [List.length_cons, List.length_cons, DtAll.len t]
section
variable {X : Cx} {pos : Pos} {j : Nat} {e : Expr} {es : List Expr} {d : PyData} {ds : List PyData}
theorem l_non {j} : PE X (.Constant .none j pos) (tLit X.K .none) := PE.of pe_non fun _ H _ q => q _ H (Same.refl _) .non
theorem l_bl {b j} : PE X (.Constant (.bool b) j pos) (tLit X.K (.bool b)) := PE.of pe_bl fun _ H _ q => q _ H (Same.refl _) (.bl _)
theorem l_int {i j} : PE X (.Constant (.int i) j pos) (tLit X.K (.int i)) := PE.of pe_int fun _ H _ q => q _ H (Same.refl _) (.int _)
theorem l_str {x j} : PE X (.Constant (.str x) j pos) (tLit X.K (.str x)) := PE.of pe_str fun _ H _ q => q _ H (Same.refl _) (.str _)
theorem l_neg {i j} {p : Pos} : PE X (.UnaryOp .USub (.Constant (.int i) j p) pos) (tLit X.K (.int (-i))) := PE.of (pe_un un_neg pe_int) fun _ H _ q => ⟨i, rfl, q _ H (Same.refl _) (.int _)⟩
theorem ls_nil : PA X [] (tLits X.K []) := PA.of pa_nil fun _ H _ q => q _ H (Same.refl _) .nil
theorem ls_cons (h : PE X e (tLit X.K d)) (hs : PA X es (tLits X.K ds)) (hx : starEach (e :: es) X.env = (false, eval e X.env) :: starEach es X.env := by rfl) : PA X (e :: es) (tLits X.K (d :: ds)) :=
  PA.of (pa_cons h hs hx) fun _ _ _ q v H1 s1 h1 vs H2 s2 h2 => q (v :: vs) H2 (s1.trans s2) (.cons (Dt.same (minus_l s2) _ h1) (DtAll.same (minus_r s1) _ h2))
theorem l_lst (hs : PA X es (tLits X.K ds)) (hz : ds.length ≤ 1000 := by decide) : PE X (.List es pos) (tLit X.K (.list ds)) :=
  PE.of (pe_lst hs) fun _ _ _ q vs H1 s1 h1 => ⟨by rw [h1.len]; exact small_line hz, fun p hp => q _ _ (s1.trans (same_upd hp)) (.lst (.inl (.inl (minus_at s1 hp))) (DtAll.same (minus_l (same_upd hp)) _ h1))⟩
theorem l_tup {k} (hs : PA X es (tLits X.K ds)) (hz : ds.length ≤ 1000 := by decide) : PE X (.Tuple es k pos) (tLit X.K (.tuple ds)) :=
  PE.of (pe_tup hs) fun _ _ _ q vs H1 s1 h1 => ⟨by rw [h1.len]; exact small_line hz, fun p hp => q _ _ (s1.trans (same_upd hp)) (.tup (.inl (.inl (minus_at s1 hp))) (DtAll.same (minus_l (same_upd hp)) _ h1))⟩
theorem l_dct0 : PE X (.Dict [] [] pos) (tLit X.K (.dict [])) :=
  PE.of pe_dnewK fun _ _ _ q p hp => q _ _ (same_upd hp) (.dct (minus_at (Same.refl _) hp) .nil .nil)
theorem l_dctS {z i j1 j2} {p1 p2 : Pos} : PE X (.Dict [some (.Constant (.str z) j1 p1)] [.Constant (.int i) j2 p2] pos) (tLit X.K (.dict [(.str z, .int i)])) :=
  PE.of (pe_disp (pps_cons pe_str pe_int pps_nil) (by rfl) (by rfl) (fun z => by cases z) (by show 1 ≤ 15; decide)) fun _ _ _ q p hp =>
    ⟨upd_same, [(.inr z, .int i)], rfl, by show 1 ≤ 15; decide, by
      rw [upd_upd]
      exact q _ _ (same_upd hp) (.dct (minus_at (Same.refl _) hp) (.cons (.str z) .nil) (.cons (.int i) .nil))⟩
theorem l_dctI {z i j1 j2} {p1 p2 : Pos} : PE X (.Dict [some (.Constant (.int i) j1 p1)] [.Constant (.str z) j2 p2] pos) (tLit X.K (.dict [(.int i, .str z)])) :=
  PE.of (pe_disp (pps_cons pe_int pe_str pps_nil) (by rfl) (by rfl) (fun z => by cases z) (by show 1 ≤ 15; decide)) fun _ _ _ q p hp =>
    ⟨upd_same, [(.inl i, .str z)], rfl, by show 1 ≤ 15; decide, by
      rw [upd_upd]
      exact q _ _ (same_upd hp) (.dct (minus_at (Same.refl _) hp) (.cons (.int i) .nil) (.cons (.str z) .nil))⟩
/-- a written list of data as a list -/
def tLitL (K : PySem.W.Frag) (ds : List PyData) : TE := fun _ H Q => ∀ l xs H', Same H H' → H l = none → H' l = some (.lst xs) → DtAll K (minus H' H) xs ds → Q (.ref l) H'
theorem l_list (hs : PA X es (tLits X.K ds)) (hz : ds.length ≤ 1000 := by decide) : PE X (.List es pos) (tLitL X.K ds) :=
  PE.of (pe_lst hs) fun _ _ _ q vs H1 s1 h1 => ⟨by rw [h1.len]; exact small_line hz, fun p hp => q p vs _ (s1.trans (same_upd hp)) (s1.free hp) upd_same (DtAll.same (minus_l (same_upd hp)) _ h1)⟩
end
theorem DtAll.append {K : PySem.W.Frag} {H : Hp} : ∀ {vs us : List V} {ds es : List PyData}, DtAll K H vs ds → DtAll K H us es → DtAll K H (vs ++ us) (ds ++ es)
  | _, _, _, _, .nil, h => h
  | _, _, _, _, .cons a t, h => .cons a (DtAll.append t h)
theorem DtAll.mem {K : PySem.W.Frag} {H : Hp} : ∀ {vs : List V} {ds : List PyData} {v : V}, DtAll K H vs ds → v ∈ vs → ∃ d, d ∈ ds ∧ Dt K H v d
  | _, _, _, .nil, h => by cases h
  | _, _, _, .cons a t, h => by
    rcases List.mem_cons.mp h with e | e
    · subst e
      exact ⟨_, List.mem_cons_self, a⟩
    · obtain ⟨d, h1, h2⟩ := DtAll.mem t e
      exact ⟨d, List.mem_cons_of_mem _ h1, h2⟩
/-- an item by a number in the bounds -/
theorem pick {α : Type} {xs : List α} {i : Int} (h0 : 0 ≤ i) (h1 : i < xs.length) : ∃ v, atI xs i = some v ∧ v ∈ xs := by
  obtain ⟨n, rfl⟩ := Int.eq_ofNat_of_zero_le h0
  have hn : n < xs.length := by omega
  exact ⟨xs[n], atI_nat (List.getElem?_eq_getElem hn), List.getElem_mem hn⟩
/-- a pot: two numbers -/
def Pot (H : Hp) (p : Addr) : Prop := ∃ x y : Int, H p = some (.lst [.int x, .int y]) ∧ 0 ≤ x ∧ 0 ≤ y ∧ y < 2147483648
/-- all but p as it was -/
def But (p : Addr) (H H' : Hp) : Prop := ∀ b o, b ≠ p → H b = some o → H' b = some o
theorem But.refl (p : Addr) (H : Hp) : But p H H := fun _ _ _ e => e
theorem But.trans {p : Addr} {H H1 H2 : Hp} (a : But p H H1) (b : But p H1 H2) : But p H H2 := fun c o n e => b c o n (a c o n e)
theorem But.new {p q : Addr} {H : Hp} {o : HO} (h : H q = none) : But p H (upd H q o) := fun b x _ e => same_upd h b x e
theorem But.at {p : Addr} {H : Hp} {o : HO} : But p H (upd H p o) := fun b x n e => by rw [upd_ne n]; exact e
theorem Pot.new {p q : Addr} {H : Hp} {o : HO} (h : H q = none) (P : Pot H p) : Pot (upd H q o) p := by
  obtain ⟨x, y, e, r⟩ := P
  exact ⟨x, y, same_upd h _ _ e, r⟩
theorem Pot.but {p q : Addr} {H H' : Hp} (P : Pot H p) (b : But q H H') (n : p ≠ q) : Pot H' p := by
  obtain ⟨x, y, e, r⟩ := P
  exact ⟨x, y, b _ _ n e, r⟩
def LitM (m : Int) : Prop := 0 < m ∧ m.natAbs.log2 < 9000
/-- all but p -/
def away (p : Addr) (H : Hp) : Hp := fun b => if b = p then none else H b
theorem away_some {p b : Addr} {H : Hp} {o : HO} (h : away p H b = some o) : b ≠ p ∧ H b = some o := by
  unfold away at h
  split at h
  · cases h
  · rename_i c
    exact ⟨c, h⟩
theorem away_mk {p b : Addr} {H : Hp} {o : HO} (n : b ≠ p) (h : H b = some o) : away p H b = some o := by
  unfold away
  rw [if_neg n]
  exact h
theorem But.away {p : Addr} {H H' : Hp} (b : But p H H') : Same (away p H) (away p H') := fun c o e => away_mk (away_some e).1 (b c o (away_some e).1 (away_some e).2)
theorem away_sub {p : Addr} {H : Hp} : Same (away p H) H := fun _ _ e => (away_some e).2
/-! ### texts that are drawn -/
def Tx (n : Nat) (z : Str) : Prop := z.length ≤ n ∧ ∀ c ∈ z.cps.toList, c < 128
theorem Tx.mono {n m : Nat} {z : Str} (h : Tx n z) (hn : n ≤ m) : Tx m z := ⟨Nat.le_trans h.1 hn, h.2⟩
theorem Tx.app {n m : Nat} {z y : Str} (h : Tx n z) (g : Tx m y) : Tx (n + m) (z ++ y) := by
  refine ⟨by rw [Str.length_append]; exact Nat.add_le_add h.1 g.1, fun c hc => ?_⟩
  rw [Str.cps_append, Array.toList_append, List.mem_append] at hc
  exact hc.elim (h.2 c) (g.2 c)
theorem Tx.cut {n : Nat} {z : Str} (h : Tx n z) (lo hi : Option Int) : Tx n (cutS z lo hi) :=
  ⟨Nat.le_trans (cutS_length z lo hi) h.1, fun c hc => h.2 c (List.mem_of_mem_drop (List.mem_of_mem_take hc))⟩
theorem joinL_ones : ∀ cs : List Nat, TL.joinL [] (cs.map fun c => [c]) = cs
  | [] => rfl
  | [_] => rfl
  | c :: d :: r => by
    show [c] ++ ([] ++ TL.joinL [] ((d :: r).map fun c => [c])) = c :: d :: r
    rw [joinL_ones (d :: r)]
    rfl
theorem join_ones (cs : List Nat) : (Txt.join "" (cs.map fun c => (⟨#[c]⟩ : Str))).cps.toList = cs := by
  rw [TL.join_eq]
  have h := TL.tl_join "" (cs.map fun c => (⟨#[c]⟩ : Str))
  have e : (cs.map fun c => (⟨#[c]⟩ : Str)).map TL.tl = cs.map fun c => [c] := by
    rw [List.map_map]
    rfl
  rw [e] at h
  exact h.trans (joinL_ones cs)
theorem Tx.join {cs : List Nat} {n : Nat} (hn : cs.length ≤ n) (h : ∀ c ∈ cs, c < 128) : Tx n (Txt.join "" (cs.map fun c => (⟨#[c]⟩ : Str))) := by
  have e := join_ones cs
  refine ⟨?_, fun c hc => h c (e ▸ hc)⟩
  show (Txt.join "" (cs.map fun c => (⟨#[c]⟩ : Str))).cps.size ≤ n
  rw [← Array.length_toList, e]
  exact hn
theorem lens_ones : ∀ cs : List Nat, ((cs.map fun c => (⟨#[c]⟩ : Str)).map (·.length)).sum = cs.length
  | [] => rfl
  | c :: r => by
    show 1 + ((r.map fun c => (⟨#[c]⟩ : Str)).map (·.length)).sum = r.length + 1
    rw [lens_ones r]
    omega
theorem litM (m : Int) (h : 0 < m) (h2 : m < 2 ^ 300) : LitM m := by
  refine ⟨h, ?_⟩
  have a : m.natAbs < 2 ^ 300 := by omega
  exact Nat.lt_trans (PySem.Flt.log2_lt_of (by decide) a) (by decide)
theorem same_but {p : Addr} {H H' : Hp} (s : Same H H') : But p H H' := fun b o _ e => s b o e
theorem Pot.same {p : Addr} {H H' : Hp} (h : Pot H p) (s : Same H H') : Pot H' p := by
  obtain ⟨x, y, e, r⟩ := h
  exact ⟨x, y, s _ _ e, r⟩
end Rc

namespace Rc
open PySem PySem.Spec PyProof.Rows L2
def topS (i : Nat) : Stmt := PySem.Challenge.pw_ringclear_k34_whole_all_rings.main.body.getD i (.Pass ⟨0, 0, 0, 0⟩)
section
variable {P : Program} {w : World} {K : PySem.W.Frag} {mg : Str → Option Value} {base : Heap}
/-! ### is_name -/
abbrev sName : Stmt := topS 20
theorem scName : FnScope ["thing", "sign"] ["thing"] (defScope sName) := ⟨rfl, rfl, rfl, by decide +kernel, rfl, by decide +kernel, by decide +kernel⟩
def spBool (K : PySem.W.Frag) (f : PyData → Bool) : Sp := fun vs H Q _ => ∃ v d, vs = [v] ∧ Dt K H v d ∧ ShortD d ∧ ∀ H', Same H H' → Q (.bl (f d)) H'
structure Blt (mg : Str → Option Value) : Prop where
  isi : mg "isinstance" = none
  str : mg "str" = none
  int : mg "int" = none
  bool : mg "bool" = none
  len : mg "len" = none
  all : mg "all" = none
theorem ok_name {f : Addr} {fd : FuncData} {k : Nat} (F : Fun K "is_name" "is_name" sName f fd) (B : Blt mg)
    (gL : ∃ t, mg "LETTERS" = some (.str "abcdefghijklmnopqrstuvwxyz" t)) (gM : ∃ t, mg "LONGEST" = some (.int 8 t)) :
    FnOk P w K mg base CX0 (k + 1) f fd ["thing"] (spBool K nameD) := by
  obtain ⟨tL, gL⟩ := gL
  obtain ⟨tM, gM⟩ := gM
  refine F.ok scName (fun vs H Q E h => ?_) (fun cdv A outer s H vs Q E hr h => ?_)
  · obtain ⟨v, d, rfl, _⟩ := h
    rfl
  · obtain ⟨v, d, rfl, hd, hz, q⟩ := h
    refine ⟨_, pss_cons (ps_if (pt_not (pt_val (pe_callB call_isi (by rfl) B.isi (by decide +kernel) (pa_cons (pv 0) (pa_cons (pe_bltn (v := .ty "str") (by rfl) B.str (by decide +kernel) rfl) pa_nil)))))
        (pss_one (ps_ret pe_bl)) pss_nil)
      (pss_cons (ps_if (PW.pt (pw_or (pt_cmpR op_lt (pe_callB call_len_str (by rfl) B.len PySem.boot_len (pa_cons (pv 0) pa_nil)) pe_int (nomark _))
          (pw_or1 (pt_cmpR op_gt (pe_callB call_len_str (by rfl) B.len PySem.boot_len (pa_cons (pv 0) pa_nil)) (pe_glob (v := .int 8) (by rfl) gM ⟨_, rfl⟩) (nomark _)))))
        (pss_one (ps_ret pe_bl)) pss_nil)
      (pss_one (ps_ret (pe_callB (cr_all rfl) (by rfl) B.all (by decide +kernel) (pa_cons
        (pe_lc (own := [("sign", 1)]) (g := gName 1) (tt := tYes) rfl scName.nd (pi_str (pv 0)) (blkOk_by (N := ["thing", "sign"]) (sc := defScope sName) (own := [("sign", 1)]) (by decide +kernel))
          (fun _ _ _ _ _ => pg_name (i := 1) scName.nd rfl (.inl rfl)) (fun _ _ _ _ _ => pts_nil)
          (fun _ _ _ _ _ => pe_cmpR op_in_sign (pv 1) (pe_glob (v := .str "abcdefghijklmnopqrstuvwxyz") (by rfl) gL ⟨_, rfl⟩) (by rfl))) pa_nil))))), ?_⟩
    refine ⟨v, rfl, v, .ty "str", _, _, strD d, rfl, .ty "str", hd.ty, kit_str d, _, rfl, ?_⟩
    cases hd with
    | str z =>
      refine iteF ?_
      have hz1 := hz z rfl
      have hz2 := small_line hz1
      refine ⟨.str z, rfl, z, rfl, hz2, _, _, rfl, rfl, _, rfl, ite2 (fun e => ?_) (fun e => ?_)⟩
      · refine iteT ?_
        have e1 : (z.length : Int) < 1 := of_decide_eq_true e
        have en : nameD (.str z) = false := by
          show nameT z = false
          unfold nameT
          rw [decide_eq_false (show ¬ 1 ≤ z.length by omega)]
          rfl
        rw [en] at q
        exact q _ (Same.refl _)
      · have e1 : ¬ (z.length : Int) < 1 := fun c => e (decide_eq_true c)
        refine ⟨.str z, rfl, z, rfl, hz2, _, _, rfl, rfl, _, rfl, ite2 (fun e2 => ?_) (fun e2 => ?_)⟩
        · have e3 : (8 : Int) < z.length := of_decide_eq_true e2
          have en : nameD (.str z) = false := by
            show nameT z = false
            unfold nameT
            rw [decide_eq_false (show ¬ z.length ≤ 8 by omega), Bool.and_false]
            rfl
          rw [en] at q
          exact q _ (Same.refl _)
        · have e3 : ¬ (8 : Int) < z.length := fun c => e2 (decide_eq_true c)
          refine ⟨.str z, rfl, z, rfl, fun D hD => lc_it walk_str (fun i H' => Same H H' ∧ H' D = some (.lst ((z.cps.toList.take i).map fun c => .bl (decide (c ∈ abc)))))
            ⟨same_upd hD, upd_same⟩ (fun _ _ _ _ => trivial) (fun i x H1 H2 hi hP hY => ?_) (fun H1 hP => ?_)⟩
          · obtain ⟨rfl, c, hc, rfl⟩ := hY
            refine ⟨rfl, .str ⟨#[c]⟩, rfl, c, _, rfl, rfl, _, hP.2, ?_, ?_, ?_⟩
            · rw [List.length_map, List.length_take]
              exact Nat.lt_of_le_of_lt (Nat.min_le_left _ _) (small1000 (by have : z.cps.size = z.length := rfl; omega))
            · intro b o eb
              rw [upd_ne (ne_of_none eb hD)]
              exact hP.1 b o eb
            · rw [upd_same, List.take_add_one, List.map_append]
              have g : z.cps.toList[i]? = some c := by rw [Array.getElem?_toList]; exact hc
              rw [g, letters_abc]
              rfl
          · refine ⟨D, z.cps.toList.map fun c => decide (c ∈ abc), rfl, .inl (.inl ?_), ?_⟩
            · have ez : z.cps.size = z.cps.toList.length := rfl
              rw [hP.2, ez, List.take_length, List.map_map]
              rfl
            · have en : nameD (.str z) = (z.cps.toList.map fun c => decide (c ∈ abc)).all id := by
                show nameT z = _
                unfold nameT
                rw [decide_eq_true (show 1 ≤ z.length by omega), decide_eq_true (show z.length ≤ 8 by omega), List.all_map]
                rfl
              rw [← en]
              exact q _ hP.1
    | _ => exact iteT (q _ (Same.refl _))
/-! ### is_whole, is_amount -/
abbrev sWhole : Stmt := topS 21
theorem scWhole : FnScope ["thing"] ["thing"] (defScope sWhole) := ⟨rfl, rfl, rfl, by decide +kernel, rfl, by decide +kernel, by decide +kernel⟩
theorem whole_eq (d : PyData) : (if (wholeD d || boolD d) = true then !boolD d else false) = wholeD d := by cases d <;> rfl
theorem ok_whole {f : Addr} {fd : FuncData} {k : Nat} (F : Fun K "is_whole" "is_whole" sWhole f fd) (B : Blt mg) :
    FnOk P w K mg base CX0 (k + 1) f fd ["thing"] (spBool K wholeD) := by
  refine F.ok scWhole (fun vs H Q E h => ?_) (fun cdv A outer s H vs Q E hr h => ?_)
  · obtain ⟨v, d, rfl, _⟩ := h
    rfl
  · obtain ⟨v, d, rfl, hd, hz, q⟩ := h
    refine ⟨_, pss_one (ps_ret (pe_and (pe_callB call_isi (by rfl) B.isi (by decide +kernel) (pa_cons (pv 0) (pa_cons (pe_bltn (v := .ty "int") (by rfl) B.int (by decide +kernel) rfl) pa_nil)))
      (pe_one (pe_not (pe_callB call_isi (by rfl) B.isi (by decide +kernel) (pa_cons (pv 0) (pa_cons (pe_bltn (v := .ty "bool") (by rfl) B.bool (by decide +kernel) rfl) pa_nil))))))), ?_⟩
    refine ⟨v, rfl, v, .ty "int", _, _, _, rfl, .ty "int", hd.ty, kit_int d, _, rfl, ?_⟩
    have e := whole_eq d
    have q1 := q H (Same.refl _)
    cases c : (wholeD d || boolD d) with
    | true =>
      rw [c, if_pos rfl] at e
      exact iteT ⟨v, rfl, v, .ty "bool", _, _, _, rfl, .ty "bool", hd.ty, kit_bool d, _, rfl, by rw [e]; exact q1⟩
    | false =>
      rw [c, if_neg Bool.false_ne_true] at e
      exact iteF (by rw [e]; exact q1)
abbrev sAmount : Stmt := topS 22
theorem scAmount : FnScope ["thing"] ["thing"] (defScope sAmount) := ⟨rfl, rfl, rfl, by decide +kernel, rfl, by decide +kernel, by decide +kernel⟩
theorem ok_amount {f fW : Addr} {fd fdW : FuncData} {k : Nat} (F : Fun K "is_amount" "is_amount" sAmount f fd) (FW : Fun K "is_whole" "is_whole" sWhole fW fdW)
    (bW : Binds K fdW ["thing"] []) (gW : mg "is_whole" = some (.ref fW)) (B : Blt mg) :
    FnOk P w K mg base CX0 (k + 2) f fd ["thing"] (spBool K amountD) := by
  have GW : FnOk P w K mg base CX0 (k + 1) fW fdW ["thing"] (spBool K wholeD) := ok_whole FW B
  refine F.ok scAmount (fun vs H Q E h => ?_) (fun cdv A outer s H vs Q E hr h => ?_)
  · obtain ⟨v, d, rfl, _⟩ := h
    rfl
  · obtain ⟨v, d, rfl, hd, hz, q⟩ := h
    refine ⟨_, pss_one (ps_ret (pe_and (pe_call GW hr (by rfl) gW FW.kp bW .nil pass0 (pa_cons (pv 0) pa_nil)) (pe_one (pe_cmpR op_ge (pv 0) pe_int (nomark _))))), ?_⟩
    refine ⟨v, rfl, v, d, rfl, hd, hz, fun H' sm => ⟨_, rfl, ?_⟩⟩
    have q1 := q H' sm
    cases hd with
    | int i => exact iteT ⟨_, rfl, i, 1, rfl, rfl, q1⟩
    | _ => exact iteF q1
end
end Rc

namespace Rc
open PySem PySem.Spec PyProof.Rows L2
section
variable {P : Program} {w : World} {K : PySem.W.Frag} {mg : Str → Option Value} {base : Heap}
structure Blt2 (mg : Str → Option Value) : Prop where
  abs : mg "abs" = none
  max : mg "max" = none
  min : mg "min" = none
  divmod : mg "divmod" = none
  range : mg "range" = none
  repr : mg "repr" = none
/-! ### _law_pot -/
abbrev sPot : Stmt := topS 32
theorem scPot : FnScope ["_law_script", "_law_k", "_law_cell"] ["_law_script", "_law_k"] (defScope sPot) := ⟨rfl, rfl, rfl, by decide +kernel, rfl, by decide +kernel, by decide +kernel⟩
def spPot (K : PySem.W.Frag) : Sp := fun vs H Q _ => ∃ (a : Addr) (ns : List Int) (k : Int), vs = [.ref a, .int k] ∧ SqL K H a (ns.map V.int) ∧ 0 ≤ k ∧ k ≤ 1000 ∧
  ∀ p o, H p = none → Pot (upd H p o) p → Q (.ref p) (upd H p o)
theorem ok_pot {f : Addr} {fd : FuncData} {k : Nat} (F : Fun K "_law_pot" "_law_pot" sPot f fd) (B : Blt mg) (B2 : Blt2 mg) :
    FnOk P w K mg base CX0 (k + 1) f fd ["_law_script", "_law_k"] (spPot K) := by
  refine F.ok scPot (fun vs H Q E h => ?_) (fun cdv A outer s H vs Q E hr h => ?_)
  · obtain ⟨a, ns, k, rfl, _⟩ := h
    rfl
  · obtain ⟨a, ns, k, rfl, hS, k0, k1, q⟩ := h
    refine ⟨_, pss_cons (ps_set (i := 2) scPot.nd rfl (.inl rfl) pe_int)
      (pss_cons (ps_if (pt_cmpR op_lt (pv 1) (pe_callB call_len_seq (by rfl) B.len PySem.boot_len (pa_cons (pv 0) pa_nil)) (nomark _))
        (pss_one (ps_set (i := 2) scPot.nd rfl (.inl rfl) (pe_callB call_abs (by rfl) B2.abs (by decide +kernel) (pa_cons (pe_ix ix_list (pv 0) (pv 1) (fun _ _ => rfl)) pa_nil)))) pss_nil)
      (pss_one (ps_ret (pe_lst (pa_cons (pe_callB (call_max2 rfl) (by rfl) B2.max (by decide +kernel) (pa_cons pe_int (pa_cons (pe_op op_sub (pv 2) (pe_op op_pow pe_int pe_int)) pa_nil)))
        (pa_cons (pe_op op_add (pe_op op_mod (pe_op op_pow (pe_op op_add (pe_op op_add (pe_op op_mod (pv 2) pe_int) (pe_op op_mul pe_int (pv 1))) pe_int) pe_int) pe_int) pe_int) pa_nil)))))), ?_⟩
    have fin : ∀ c : Int, 0 ≤ c → ∃ v, ([some (.ref a), some (.int k), some (.int c)] : List (Option V))[2]? = some (some v) ∧ v = .int c := fun c _ => ⟨_, rfl, rfl⟩
    have three : ∀ c : Int, 0 ≤ c → 0 ≤ c % 2147483549 + 101 * k + 1 ∧ (c % 2147483549 + 101 * k + 1).natAbs < 2 ^ 64 := fun c h0 => by
      have a1 : 0 ≤ c % 2147483549 := Int.emod_nonneg _ (by decide)
      have a2 : c % 2147483549 < 2147483549 := Int.emod_lt_of_pos _ (by decide)
      omega
    refine ⟨_, rfl, .ref a, rfl, a, _, rfl, .inl hS, _, _, rfl, rfl, _, rfl, ite2 (fun e => ?_) (fun e => ?_)⟩
    · have e1 : k < (ns.map V.int).length := of_decide_eq_true e
      rw [List.length_map] at e1
      obtain ⟨n, rfl⟩ := Int.eq_ofNat_of_zero_le k0
      have hn : n < ns.length := by omega
      have g : (ns.map V.int)[n]? = some (.int ns[n]) := by
        rw [List.getElem?_map, List.getElem?_eq_getElem hn]
        rfl
      refine ⟨.ref a, rfl, .int n, rfl, a, _, _, _, rfl, rfl, hS, atI_nat g, _, rfl, ?_⟩
      have c0 : 0 ≤ (if ns[n] < 0 then -ns[n] else ns[n]) := by split <;> omega
      generalize (if ns[n] < 0 then -ns[n] else ns[n]) = c at c0
      obtain ⟨t1, t2⟩ := three c c0
      refine ⟨.int c, rfl, _, _, rfl, rfl, ⟨by decide, by decide, by decide⟩, _, _, rfl, rfl, _, _, rfl, .int c, rfl, _, _, rfl, rfl, (show (0 : Int) < 2147483549 by decide), .int n, rfl, _, _, rfl, rfl, .inl ⟨by decide, by decide⟩, _, _, rfl, rfl, _, _, rfl, rfl, _, _, rfl, rfl, ⟨by decide, by decide, t2⟩, _, _, rfl, rfl, (show (0 : Int) < 2147483543 by decide), _, _, rfl, rfl, by show 2 ≤ sizeLine; decide, fun p np => ?_⟩
      refine q p _ np ⟨_, _, upd_same, ?_, ?_, ?_⟩
      · split <;> omega
      · have := Int.emod_nonneg ((c % 2147483549 + 101 * n + 1) ^ (2 : Int).toNat) (show (2147483543 : Int) ≠ 0 by decide)
        omega
      · have := Int.emod_lt_of_pos ((c % 2147483549 + 101 * n + 1) ^ (2 : Int).toNat) (show (0 : Int) < 2147483543 by decide)
        omega
    · obtain ⟨t1, t2⟩ := three 0 (Int.le_refl _)
      refine ⟨.int 0, rfl, _, _, rfl, rfl, ⟨by decide, by decide, by decide⟩, _, _, rfl, rfl, _, _, rfl, .int 0, rfl, _, _, rfl, rfl, (show (0 : Int) < 2147483549 by decide), .int k, rfl, _, _, rfl, rfl, .inl ⟨by decide, by decide⟩, _, _, rfl, rfl, _, _, rfl, rfl, _, _, rfl, rfl, ⟨by decide, by decide, t2⟩, _, _, rfl, rfl, (show (0 : Int) < 2147483543 by decide), _, _, rfl, rfl, by show 2 ≤ sizeLine; decide, fun p np => ?_⟩
      refine q p _ np ⟨_, _, upd_same, ?_, ?_, ?_⟩
      · split <;> omega
      · have := Int.emod_nonneg (((0 : Int) % 2147483549 + 101 * k + 1) ^ (2 : Int).toNat) (show (2147483543 : Int) ≠ 0 by decide)
        omega
      · have := Int.emod_lt_of_pos (((0 : Int) % 2147483549 + 101 * k + 1) ^ (2 : Int).toNat) (show (0 : Int) < 2147483543 by decide)
        omega
/-! ### _law_take -/
abbrev sTake : Stmt := topS 33
theorem scTake : FnScope ["_law_pot_here", "_law_many", "_law_digit"] ["_law_pot_here", "_law_many"] (defScope sTake) := ⟨rfl, rfl, rfl, by decide +kernel, rfl, by decide +kernel, by decide +kernel⟩
def spTake : Sp := fun vs H Q _ => ∃ (p : Addr) (m : Int), vs = [.ref p, .int m] ∧ Pot H p ∧ LitM m ∧ ∀ d H', 0 ≤ d → d < m → Pot H' p → But p H H' → Q (.int d) H'
theorem ok_take {f : Addr} {fd : FuncData} {k : Nat} (F : Fun K "_law_take" "_law_take" sTake f fd) (B2 : Blt2 mg) :
    FnOk P w K mg base CX0 (k + 1) f fd ["_law_pot_here", "_law_many"] spTake := by
  refine F.ok scTake (fun vs H Q E h => ?_) (fun cdv A outer s H vs Q E hr h => ?_)
  · obtain ⟨a, m, rfl, _⟩ := h
    rfl
  · obtain ⟨p, m, rfl, ⟨x, y, hp, x0, y0, y1⟩, ⟨m0, m1⟩, q⟩ := h
    refine ⟨_, pss_cons (ps_if (pt_cmpR op_gt (pe_ix ix_list (pv 0) pe_int (fun _ _ => rfl)) pe_int (nomark _))
        (pss_cons (ps_asg (pe_callB call_divmodW (by rfl) B2.divmod (by decide +kernel) (pa_cons (pe_ix ix_list (pv 0) pe_int (fun _ _ => rfl)) (pa_cons (pv 1) pa_nil)))
            (pg_tup rfl (pgs_cons (pg_sub (pv 0) pe_int set_list) (pgs_cons (pg_name (i := 2) scTake.nd rfl (.inl rfl)) pgs_nil))))
          (pss_one (ps_ret (pv 2)))) pss_nil)
      (pss_cons (ps_asg (pe_op op_mod (pe_op op_add (pe_op op_mul (pe_ix ix_list (pv 0) pe_int (fun _ _ => rfl)) pe_int) pe_int) pe_int) (pg_sub (pv 0) pe_int set_list))
      (pss_one (ps_ret (pe_op op_mod (pe_op op_fdiv (pe_op op_mod (pe_op op_mul (pe_ix ix_list (pv 0) pe_int (fun _ _ => rfl)) (pe_ix ix_list (pv 0) pe_int (fun _ _ => rfl))) pe_int) pe_int) (pv 1))))), ?_⟩
    have sq : SqL K H p [.int x, .int y] := .inl (.inl hp)
    refine ⟨.ref p, rfl, p, _, 0, .int x, rfl, rfl, sq, rfl, _, _, rfl, rfl, _, rfl, ite2 (fun e => ?_) (fun e => ?_)⟩
    · have e1 : 0 < x := of_decide_eq_true e
      refine ⟨.ref p, rfl, p, _, 0, .int x, rfl, rfl, sq, rfl, .int m, rfl, x, m, rfl, ⟨m0, PyProof.noPylong_of_log2 m1⟩, fun T hT => ?_⟩
      refine ⟨T, _, rfl, .inl (.inl upd_same), rfl, _, _, rfl, .ref p, rfl, p, _, 0, 0, rfl, rfl, same_upd hT _ _ hp, rfl, _, _, rfl, rfl, ?_⟩
      refine ⟨_, rfl, q _ _ (Int.emod_nonneg _ (by omega)) (Int.emod_lt_of_pos _ m0) ⟨x / m, y, upd_same, Int.ediv_nonneg x0 (by omega), y0, y1⟩ ?_⟩
      exact (But.new hT).trans But.at
    · have c0 : 0 ≤ (y * 48271 + 10007) % 2147483587 := Int.emod_nonneg _ (by decide)
      have c1 : (y * 48271 + 10007) % 2147483587 < 2147483587 := Int.emod_lt_of_pos _ (by decide)
      refine ⟨.ref p, rfl, p, _, 1, .int y, rfl, rfl, sq, rfl, _, _, rfl, rfl, .inl ⟨by omega, by omega⟩, _, _, rfl, rfl, _, _, rfl, rfl, (show (0 : Int) < 2147483587 by decide), .ref p, rfl, p, _, 1, 1, rfl, rfl, hp, rfl, ?_⟩
      have sq2 : SqL K (upd H p (.lst ([V.int x, V.int y].set 1 (.int ((y * 48271 + 10007) % 2147483587))))) p [.int x, .int ((y * 48271 + 10007) % 2147483587)] := .inl (.inl upd_same)
      refine ⟨.ref p, rfl, p, _, 1, _, rfl, rfl, sq2, rfl, .ref p, rfl, p, _, 1, _, rfl, rfl, sq2, rfl, _, _, rfl, rfl, .inl ⟨by omega, by omega⟩, _, _, rfl, rfl, (show (0 : Int) < 2147483563 by decide), _, _, rfl, rfl, ⟨by decide, by decide⟩, .int m, rfl, _, _, rfl, rfl, m0, ?_⟩
      exact q _ _ (Int.emod_nonneg _ (by omega)) (Int.emod_lt_of_pos _ m0) ⟨x, _, upd_same, x0, c0, by omega⟩ But.at
/-- what the callers of _law_take have -/
structure HasTake (P : Program) (w : World) (K : PySem.W.Frag) (mg : Str → Option Value) (base : Heap) (f : Addr) (fd : FuncData) : Prop where
  ok : FnOk P w K mg base CX0 1 f fd ["_law_pot_here", "_law_many"] spTake
  g : mg "_law_take" = some (.ref f)
  kp : PySem.W.keepIn K (.ref f) = true
  b : Binds K fd ["_law_pot_here", "_law_many"] []
/-! ### _law_among -/
abbrev sAmong : Stmt := topS 36
theorem scAmong : FnScope ["_law_pot_here", "_law_some"] ["_law_pot_here", "_law_some"] (defScope sAmong) := ⟨rfl, rfl, rfl, by decide +kernel, rfl, by decide +kernel, by decide +kernel⟩
def spAmong : Sp := fun vs H Q _ => ∃ p v, vs = [.ref p, v] ∧ Pot H p ∧
  ((∃ z, v = .str z ∧ 0 < z.length ∧ z.length ≤ 1000 ∧ ∀ c H', c ∈ z.cps.toList → Pot H' p → But p H H' → Q (.str ⟨#[c]⟩) H') ∨
   (∃ a xs, v = .ref a ∧ a ≠ p ∧ H a = some (.lst xs) ∧ 0 < xs.length ∧ xs.length ≤ 1000 ∧ ∀ x H', x ∈ xs → Pot H' p → But p H H' → Q x H'))
theorem ok_among {f fT : Addr} {fd fdT : FuncData} (F : Fun K "_law_among" "_law_among" sAmong f fd) (B : Blt mg) (T : HasTake P w K mg base fT fdT) :
    FnOk P w K mg base CX0 2 f fd ["_law_pot_here", "_law_some"] spAmong := by
  refine F.ok scAmong (fun vs H Q E h => ?_) (fun cdv A outer s H vs Q E hr h => ?_)
  · obtain ⟨a, m, rfl, _⟩ := h
    rfl
  · obtain ⟨p, v, rfl, hp, h⟩ := h
    refine ⟨_, pss_one (ps_ret (pe_ix ix_seq (pv 1) (pe_call T.ok hr (by rfl) T.g T.kp T.b .nil pass0 (pa_cons (pv 0) (pa_cons (pe_callB call_len (by rfl) B.len PySem.boot_len (pa_cons (pv 1) pa_nil)) pa_nil))) (fun _ _ => rfl))), ?_⟩
    rcases h with ⟨z, rfl, z0, z1, q⟩ | ⟨a, xs, rfl, ne, ha, x0, x1, q⟩
    · have zl := small_line z1
      refine ⟨.str z, rfl, .ref p, rfl, .str z, rfl, .str z, z.length, rfl, ⟨zl, rfl⟩, p, z.length, rfl, hp, litM _ (by omega) (by omega), fun d H' d0 d1 hp' hb => ?_⟩
      have el : z.cps.toList.length = z.length := rfl
      obtain ⟨c, e1, e2⟩ := pick (xs := z.cps.toList) d0 (by rw [el]; exact d1)
      exact .inr (.inr ⟨z, d, c, rfl, rfl, zl, e1, q c H' e2 hp' hb⟩)
    · refine ⟨.ref a, rfl, .ref p, rfl, .ref a, rfl, .ref a, xs.length, rfl, .inl ⟨xs, .inl (.inl ha), rfl⟩, p, xs.length, rfl, hp, litM _ (by omega) (by omega), fun d H' d0 d1 hp' hb => ?_⟩
      obtain ⟨c, e1, e2⟩ := pick (xs := xs) d0 d1
      exact .inl ⟨a, xs, d, c, rfl, rfl, .inl (.inl (hb _ _ ne ha)), e1, q c H' e2 hp' hb⟩
structure HasAmong (P : Program) (w : World) (K : PySem.W.Frag) (mg : Str → Option Value) (base : Heap) (f : Addr) (fd : FuncData) : Prop where
  ok : FnOk P w K mg base CX0 2 f fd ["_law_pot_here", "_law_some"] spAmong
  g : mg "_law_among" = some (.ref f)
  kp : PySem.W.keepIn K (.ref f) = true
  b : Binds K fd ["_law_pot_here", "_law_some"] []
end
end Rc

namespace Rc
open PySem PySem.Spec PyProof.Rows L2
/-! ### what no list and no dict touches -/
def Fix : HO → Prop
  | .lst _ | .dK _ | .dT _ | .set _ _ => False
  | _ => True
/-- all but lists and dicts as it was -/
def Kp (H H' : Hp) : Prop := ∀ b o, H b = some o → Fix o → H' b = some o
theorem Kp.refl (H : Hp) : Kp H H := fun _ _ e _ => e
theorem Kp.trans {H H1 H2 : Hp} (a : Kp H H1) (b : Kp H1 H2) : Kp H H2 := fun c o e f => b c o (a c o e f) f
theorem Same.kp {H H' : Hp} (s : Same H H') : Kp H H' := fun b o e _ => s b o e
theorem But.kp {p : Addr} {H H' : Hp} {xs : List V} (s : But p H H') (h : H p = some (.lst xs)) : Kp H H' := fun b o e f => s b o (fun z => by
  rw [z, h] at e
  cases e
  exact f) e
/-- all tuples as they were -/
def TupO : HO → Prop
  | .tup _ | .frz _ _ => True
  | _ => False
def KT (H H' : Hp) : Prop := ∀ b o, H b = some o → TupO o → H' b = some o
theorem Kp.kt {H H' : Hp} (k : Kp H H') : KT H H' := fun b o e t => k b o e (by cases o <;> first | exact t.elim | exact trivial)
theorem kt_same {H H' : Hp} (s : Same H H') : KT H H' := fun b o e _ => s b o e
theorem KT.trans {H H1 H2 : Hp} (a : KT H H1) (b : KT H1 H2) : KT H H2 := fun c o e f => b c o (a c o e f) f
theorem kt_upd {H : Hp} {x : Addr} {o o' : HO} (h : H x = some o) (n : ¬ TupO o) : KT H (upd H x o') := fun b u e t => by
  have nb : b ≠ x := fun z => by
    rw [z, h] at e
    cases e
    exact n t
  rw [upd_ne nb]
  exact e
mutual
/-- no list, no dict in it -/
def tupD : PyData → Bool
  | .list _ | .dict _ => false
  | .tuple ds => tupDs ds
  | .none | .bool _ | .int _ | .str _ => true
def tupDs : List PyData → Bool
  | [] => true
  | d :: ds => tupD d && tupDs ds
end
mutual
theorem Dt.keepT {K : PySem.W.Frag} {H H' : Hp} (e : KT H H') : ∀ {v : V} (d : PyData), tupD d = true → Dt K H v d → Dt K H' v d
  | _, .none, _, h => by cases h; exact .non
  | _, .bool _, _, h => by cases h; exact .bl _
  | _, .int _, _, h => by cases h; exact .int _
  | _, .str _, _, h => by cases h; exact .str _
  | _, .list ds, t, h => by simp [tupD] at t
  | _, .dict ps, t, h => by simp [tupD] at t
  | _, .tuple ds, t, h => by
    cases h with
    | tup q a =>
      refine .tup ?_ (DtAll.keepT e ds (by simpa [tupD] using t) a)
      rcases q with (q | ⟨o, q⟩) | q
      · exact .inl (.inl (e _ _ q trivial))
      · exact .inl (.inr ⟨o, e _ _ q trivial⟩)
      · exact .inr q
theorem DtAll.keepT {K : PySem.W.Frag} {H H' : Hp} (e : KT H H') : ∀ {vs : List V} (ds : List PyData), tupDs ds = true → DtAll K H vs ds → DtAll K H' vs ds
  | _, [], _, h => by cases h; exact .nil
  | _, d :: ds, t, h => by
    cases h with
    | cons a b =>
      have t' : tupD d = true ∧ tupDs ds = true := by simpa [tupDs] using t
      exact .cons (Dt.keepT e d t'.1 a) (DtAll.keepT e ds t'.2 b)
end
theorem Dt.keep {K : PySem.W.Frag} {H H' : Hp} (e : Kp H H') {v : V} (d : PyData) (t : tupD d = true) (h : Dt K H v d) : Dt K H' v d := Dt.keepT e.kt d t h
theorem DtAll.keep {K : PySem.W.Frag} {H H' : Hp} (e : Kp H H') {vs : List V} (ds : List PyData) (t : tupDs ds = true) (h : DtAll K H vs ds) : DtAll K H' vs ds := DtAll.keepT e.kt ds t h
theorem tupDs_map {α : Type} {f : α → PyData} (h : ∀ x, tupD (f x) = true) : ∀ l : List α, tupDs (l.map f) = true
  | [] => rfl
  | x :: r => by
    rw [List.map_cons]
    simp only [tupDs, h x, tupDs_map h r, Bool.and_self]
theorem DtAll.drop {K : PySem.W.Frag} {H : Hp} : ∀ {vs : List V} {ds : List PyData} (n : Nat), DtAll K H vs ds → DtAll K H (vs.drop n) (ds.drop n)
  | _, _, 0, h => h
  | _, _, _ + 1, .nil => .nil
  | _, _, n + 1, .cons _ t => DtAll.drop n t
theorem DtAll.take {K : PySem.W.Frag} {H : Hp} : ∀ {vs : List V} {ds : List PyData} (n : Nat), DtAll K H vs ds → DtAll K H (vs.take n) (ds.take n)
  | _, _, 0, h => .nil
  | _, _, _ + 1, .nil => .nil
  | _, _, n + 1, .cons a t => .cons a (DtAll.take n t)
theorem DtAll.get {K : PySem.W.Frag} {H : Hp} : ∀ {vs : List V} {ds : List PyData} {n : Nat} {d : PyData}, DtAll K H vs ds → ds[n]? = some d → ∃ v, vs[n]? = some v ∧ Dt K H v d
  | _, _, _, _, .nil, e => by simp at e
  | _, _, 0, _, .cons a _, e => by
    simp at e
    subst e
    exact ⟨_, rfl, a⟩
  | _, _, n + 1, _, .cons _ t, e => by
    obtain ⟨v, h1, h2⟩ := DtAll.get (n := n) t (by simpa using e)
    exact ⟨v, by simpa using h1, h2⟩
theorem DtAll.rep {K : PySem.W.Frag} {H : Hp} {v : V} {d : PyData} (h : Dt K H v d) : ∀ n : Nat, DtAll K H (List.replicate n v) (List.replicate n d)
  | 0 => .nil
  | n + 1 => .cons h (DtAll.rep h n)
theorem DtAll.strs {K : PySem.W.Frag} {H : Hp} : ∀ zs : List Str, DtAll K H (zs.map V.str) (zs.map PyData.str)
  | [] => .nil
  | z :: r => .cons (.str z) (DtAll.strs r)
theorem DtAll.ints {K : PySem.W.Frag} {H : Hp} : ∀ zs : List Int, DtAll K H (zs.map V.int) (zs.map PyData.int)
  | [] => .nil
  | z :: r => .cons (.int z) (DtAll.ints r)
theorem DtAll.strs_eq {K : PySem.W.Frag} {H : Hp} : ∀ {vs : List V} {zs : List Str}, DtAll K H vs (zs.map PyData.str) → vs = zs.map V.str
  | _, [], h => by cases h; rfl
  | _, z :: r, h => by
    cases h with
    | cons a t =>
      cases a
      rw [DtAll.strs_eq t]
      rfl
theorem DtAll.ints_eq {K : PySem.W.Frag} {H : Hp} : ∀ {vs : List V} {zs : List Int}, DtAll K H vs (zs.map PyData.int) → vs = zs.map V.int
  | _, [], h => by cases h; rfl
  | _, z :: r, h => by
    cases h with
    | cons a t =>
      cases a
      rw [DtAll.ints_eq t]
      rfl
/-! ### rules by data -/
theorem Dt.tup_inv {K : PySem.W.Frag} {H : Hp} {v : V} {ds : List PyData} (h : Dt K H v (.tuple ds)) : ∃ a xs, v = .ref a ∧ SqT K H a xs ∧ DtAll K H xs ds := by
  cases h with
  | tup q a => exact ⟨_, _, rfl, q, a⟩
theorem Dt.lst_inv {K : PySem.W.Frag} {H : Hp} {v : V} {ds : List PyData} (h : Dt K H v (.list ds)) : ∃ a xs, v = .ref a ∧ SqL K H a xs ∧ DtAll K H xs ds := by
  cases h with
  | lst q a => exact ⟨_, _, rfl, q, a⟩
section
variable {X : Cx}
def rCatD (K : PySem.W.Frag) : R2 := fun x y H Q => ∃ ds es, Dt K H x (.tuple ds) ∧ Dt K H y (.tuple es) ∧ ds.length + es.length ≤ 1000 ∧ ∀ v H', Same H H' → Dt K H' v (.tuple (ds ++ es)) → Q v H'
theorem op_catD : OpR X (binaryOp .Add) (rCatD X.K) := by
  intro pins s σ H x y v u Q I rx ry h
  obtain ⟨ds, es, h1, h2, hz, q⟩ := h
  obtain ⟨a, xs, rfl, qa, da⟩ := h1.tup_inv
  obtain ⟨b, ys, rfl, qb, db⟩ := h2.tup_inv
  refine op_catA pins s σ H _ _ v u Q I rx ry ⟨a, b, xs, ys, rfl, rfl, qa, qb, small_line (by rw [da.len, db.len]; exact hz), fun e => ?_, fun _ e => ?_, fun _ _ p hp => ?_⟩
  · subst e
    cases da
    exact q _ H (Same.refl _) h2
  · subst e
    cases db
    rw [List.append_nil] at q
    exact q _ H (Same.refl _) h1
  · exact q _ _ (same_upd hp) (.tup (.inl (.inl upd_same)) ((DtAll.same (same_upd hp) _ da).append (DtAll.same (same_upd hp) _ db)))
/-- t[n], n from 0 on -/
def rIxD (K : PySem.W.Frag) : R2 := fun x y H Q => ∃ ds n d, Dt K H x (.tuple ds) ∧ y = .int (n : Nat) ∧ ds[n]? = some d ∧ ∀ v, Dt K H v d → Q v H
theorem ix_tupD : IxR X (rIxD X.K) := by
  intro value slice pins s σ H x y v u Q I rx ry h hs
  obtain ⟨ds, n, d, h1, rfl, e, q⟩ := h
  obtain ⟨a, xs, rfl, qa, da⟩ := h1.tup_inv
  obtain ⟨z, e1, e2⟩ := da.get e
  exact ix_tup value slice pins s σ H _ _ v u Q I rx ry ⟨a, xs, n, z, rfl, rfl, qa, atI_nat e1, q z e2⟩ hs
/-- t[:n], t[n:] -/
def rSlD (K : PySem.W.Frag) : V → Option Int → Option Int → Hp → VK → Prop := fun x lo hi H Q => ∃ ds, Dt K H x (.tuple ds) ∧
  ((∃ n : Nat, lo = none ∧ hi = some (n : Int) ∧ ∀ v H', Same H H' → Dt K H' v (.tuple (ds.take n)) → Q v H') ∨ (∃ n : Nat, lo = some (n : Int) ∧ hi = none ∧ ∀ v H', Same H H' → Dt K H' v (.tuple (ds.drop n)) → Q v H'))
theorem cut_take (xs : List V) (n : Nat) : cutV xs none (some (n : Int)) = xs.take n := by
  unfold cutV
  rw [HT.sIx_nat, HT.sIx_none]
  rw [List.drop_zero, Nat.sub_zero]
  by_cases h : n ≤ xs.length
  · rw [Nat.min_eq_left h]
  · rw [Nat.min_eq_right (by omega), List.take_length, List.take_of_length_le (by omega)]
theorem cut_drop (xs : List V) (n : Nat) : cutV xs (some (n : Int)) none = xs.drop n := by
  unfold cutV
  rw [HT.sIx_nat, HT.sIx_none]
  by_cases h : n ≤ xs.length
  · rw [Nat.min_eq_left h]
    exact List.take_of_length_le (by rw [List.length_drop]; omega)
  · rw [Nat.min_eq_right (by omega), List.drop_length, List.drop_of_length_le (by omega), List.take_nil]
theorem sl_tupD : SlR X (rSlD X.K) := by
  intro pins s σ H x v vl vu lo hi sl Q I rx hs pl pu h
  obtain ⟨ds, h1, h⟩ := h
  obtain ⟨a, xs, rfl, qa, da⟩ := h1.tup_inv
  rcases h with ⟨n, rfl, rfl, q⟩ | ⟨n, rfl, rfl, q⟩
  · refine sl_tupA pins s σ H _ v vl vu _ _ sl Q I rx hs pl pu ⟨a, xs, rfl, qa, fun e => ?_, fun _ p hp => ?_⟩
    · have e2 := e.2
      rw [HT.sIx_nat] at e2
      refine q _ H (Same.refl _) ?_
      rw [List.take_of_length_le (by rw [← da.len]; omega)]
      exact h1
    · rw [cut_take]
      exact q _ _ (same_upd hp) (.tup (.inl (.inl upd_same)) (DtAll.same (same_upd hp) _ (da.take n)))
  · refine sl_tupA pins s σ H _ v vl vu _ _ sl Q I rx hs pl pu ⟨a, xs, rfl, qa, fun e => ?_, fun _ p hp => ?_⟩
    · have e1 := e.1
      rw [HT.sIx_nat] at e1
      refine q _ H (Same.refl _) ?_
      rcases Nat.min_eq_zero_iff.mp e1 with z | z
      · rw [z]
        exact h1
      · have : ds = [] := List.eq_nil_of_length_eq_zero (by rw [← da.len]; exact z)
        subst this
        rw [List.drop_nil]
        exact h1
    · rw [cut_drop]
      exact q _ _ (same_upd hp) (.tup (.inl (.inl upd_same)) (DtAll.same (same_upd hp) _ (da.drop n)))
/-- list(t), tuple(l) of tuples and lists of data: a new list; a tuple -/
def rListD (K : PySem.W.Frag) : List V → Hp → VK → Prop := fun vs H Q => ∃ v ds, vs = [v] ∧ (Dt K H v (.tuple ds) ∨ Dt K H v (.list ds)) ∧ ∀ l xs, H l = none → DtAll K H xs ds → Q (.ref l) (upd H l (.lst xs))
theorem call_listD : CallR X (.type "list") (rListD X.K) := by
  intro pins s σ H xs us Q I r h
  obtain ⟨v, ds, rfl, h1, q⟩ := h
  rcases h1 with h1 | h1
  · obtain ⟨a, ys, rfl, qa, da⟩ := h1.tup_inv
    exact call_list_of pins s σ H _ us Q I r ⟨a, ys, rfl, .inr qa, fun l hl => q l ys hl da⟩
  · obtain ⟨a, ys, rfl, qa, da⟩ := h1.lst_inv
    exact call_list_of pins s σ H _ us Q I r ⟨a, ys, rfl, .inl qa, fun l hl => q l ys hl da⟩
def rTupD (K : PySem.W.Frag) : List V → Hp → VK → Prop := fun vs H Q => ∃ v ds, vs = [v] ∧ Dt K H v (.list ds) ∧ ∀ t H', Same H H' → Dt K H' t (.tuple ds) → Q t H'
theorem call_tupD : CallR X (.type "tuple") (rTupD X.K) := by
  intro pins s σ H xs us Q I r h
  obtain ⟨v, ds, rfl, h1, q⟩ := h
  obtain ⟨a, ys, rfl, qa, da⟩ := h1.lst_inv
  exact call_tuple_of pins s σ H _ us Q I r ⟨a, ys, rfl, .inl ⟨qa, fun l hl => q _ _ (same_upd hl) (.tup (.inl (.inl upd_same)) (DtAll.same (same_upd hl) _ da))⟩⟩
end
open AutoSeq1 (wpAny_loadPart') in
theorem tuple_mul1 (l : Addr) (items : Array Value) (n : Nat) (dd : Option Addr) (sl : Array (Option Value)) (u : Tok) :
    Meets (Builtin.«tuple.__mul__» ⟨[.ref l, .int 1 u], []⟩) (fun _ R s => s.heap.get? l = some { cls := .type "tuple", dict := dd, data := .seq items n, slots := sl } ∧ R (.ok (.ret (Value.ref l))) s) :=
  .of_wp fun prog w A R s h => by
    obtain ⟨hp, g, d, tk, os⟩ := s
    obtain ⟨hl, h⟩ := h
    have f1 := AutoSeq1.idx_int
    wp_walk using wpAny_loadPart' hl
    exact ⟨_, rfl, h⟩
section
variable {X : Cx}
/-- (d,) * k, k from 1 on -/
def rRepD (K : PySem.W.Frag) : R2 := fun x y H Q => ∃ (d : PyData) (k : Nat), Dt K H x (.tuple [d]) ∧ y = .int (k : Nat) ∧ 1 ≤ k ∧ k ≤ 1000 ∧ ∀ v H', Same H H' → Dt K H' v (.tuple (List.replicate k d)) → Q v H'
theorem rep_one {v : V} : ∀ k : Nat, (List.replicate k [v]).flatten = List.replicate k v
  | 0 => rfl
  | k + 1 => by
    rw [List.replicate_succ, List.flatten_cons, rep_one k]
    rfl
theorem op_repD : OpR X (binaryOp .Mult) (rRepD X.K) := by
  intro pins s σ H x y v u Q I rx ry h
  obtain ⟨d, k, h1, rfl, k1, k2, q⟩ := h
  obtain ⟨l, xs, rfl, qa, da⟩ := h1.tup_inv
  by_cases hk : k = 1
  · subst hk
    cases rx
    obtain ⟨t, rfl⟩ := ry
    obtain ⟨its, r, ⟨⟨cls, dd, data, sl⟩, ho, hc, n, hd⟩, hs⟩ := I.tuple qa
    simp only at hc hd
    subst hc hd
    refine wpAny_binaryOp_repeat_ref (T := "tuple") (U := "int") (by decide) ⟨_, ho, rfl⟩ (fun s' => typeIs_int s' _ t) noFill_tuple_mul F.fills_int_mul F.slot_int_rmul repeat_tuple F.slot_int_index.lookup
      (call_meets F.slot_int_rmul (typeIs_int s _ t) F.entry_int_rmul (F.args_int_rmul_2 _ _) (int_rmul_tuple _ t l its.toArray n dd sl)
        ⟨ho, rfl, ⟨_, ho, rfl⟩, call_meets F.slot_tuple_mul ⟨_, ho, rfl⟩ F.entry_tuple_mul (F.args_tuple_mul_2 _ _) (tuple_mul1 l its.toArray n dd sl t) ⟨ho, ?_⟩⟩)
    exact ⟨.ref l, H, I, rfl, q _ H (Same.refl _) h1⟩
  · cases da with
    | cons a b =>
      cases b
      refine op_repT pins s σ H _ _ v u Q I rx ry ⟨l, k, _, rfl, rfl, qa, by simp, by omega, by omega, by simp, fun p hp => ?_⟩
      rw [rep_one]
      exact q _ _ (same_upd hp) (.tup (.inl (.inl upd_same)) (DtAll.rep (Dt.same (same_upd hp) _ a) k))
end
/-! ### a book's data -/
structure Bk where
  names : List Str
  gifts : List Int
  stacks : List (List (Str × Int))
  drops : List Int
def noteD (n : Str × Int) : PyData := .tuple [.str n.1, .int n.2]
def notesD (l : List (Str × Int)) : List PyData := l.map noteD
def stackD (l : List (Str × Int)) : PyData := .tuple (notesD l)
theorem tup_note (n : Str × Int) : tupD (noteD n) = true := by simp [noteD, tupD, tupDs]
theorem tup_notes (l : List (Str × Int)) : tupDs (notesD l) = true := tupDs_map tup_note l
theorem tup_stack (l : List (Str × Int)) : tupD (stackD l) = true := by
  unfold stackD
  simpa [tupD] using tup_notes l
theorem tup_stacks (l : List (List (Str × Int))) : tupD (.tuple (l.map stackD)) = true := by simpa [tupD] using tupDs_map tup_stack l
theorem tup_strs (l : List Str) : tupD (.tuple (l.map PyData.str)) = true := by simpa [tupD] using tupDs_map (f := PyData.str) (fun _ => by simp [tupD]) l
theorem tup_ints (l : List Int) : tupD (.tuple (l.map PyData.int)) = true := by simpa [tupD] using tupDs_map (f := PyData.int) (fun _ => by simp [tupD]) l
def bf (a b c d : V) : List (Str × V) := [("names", a), ("gifts", b), ("stacks", c), ("drops", d)]
theorem lk_hit {f : Str} {v : V} {r : List (Str × V)} : List.lookup f ((f, v) :: r) = some v := by simp [List.lookup]
theorem lk_miss {f g : Str} {v : V} {r : List (Str × V)} (h : (f == g) = false) : List.lookup f ((g, v) :: r) = List.lookup f r := by simp [List.lookup, h]
theorem bf_names {a b c d : V} : (bf a b c d).lookup ("names" : Str) = some a := lk_hit
theorem bf_gifts {a b c d : V} : (bf a b c d).lookup ("gifts" : Str) = some b := (lk_miss (by decide +kernel)).trans lk_hit
theorem bf_stacks {a b c d : V} : (bf a b c d).lookup ("stacks" : Str) = some c := (lk_miss (by decide +kernel)).trans ((lk_miss (by decide +kernel)).trans lk_hit)
theorem bf_drops {a b c d : V} : (bf a b c d).lookup ("drops" : Str) = some d := (lk_miss (by decide +kernel)).trans ((lk_miss (by decide +kernel)).trans ((lk_miss (by decide +kernel)).trans lk_hit))
/-- a name that is no field -/
def NoF (m : Str) : Prop := (m == "names") = false ∧ (m == "gifts") = false ∧ (m == "stacks") = false ∧ (m == "drops") = false
theorem bf_no {a b c d : V} {m : Str} (h : NoF m) : (bf a b c d).lookup m = none := (lk_miss h.1).trans ((lk_miss h.2.1).trans ((lk_miss h.2.2.1).trans ((lk_miss h.2.2.2).trans rfl)))
structure BookAt (K : PySem.W.Frag) (C : Addr) (H : Hp) (b : Addr) (M : Bk) : Prop where
  ex : ∃ dx tn on vg vs vd, H b = some (.ins C dx (bf (.ref tn) vg vs vd)) ∧ H tn = some (.frz on (.tup (M.names.map V.str))) ∧ on.dict = none ∧ Dt K H vg (.tuple (M.gifts.map .int)) ∧ Dt K H vs (.tuple (M.stacks.map stackD)) ∧ Dt K H vd (.tuple (M.drops.map .int))
theorem BookAt.keep {K : PySem.W.Frag} {C : Addr} {H H' : Hp} {b : Addr} {M : Bk} (h : BookAt K C H b M) (k : Kp H H') : BookAt K C H' b M := by
  obtain ⟨dx, tn, on, vg, vs, vd, e, h1, hn, h2, h3, h4⟩ := h.ex
  exact ⟨dx, tn, on, vg, vs, vd, k _ _ e trivial, k _ _ h1 trivial, hn, Dt.keep k _ (tup_ints _) h2, Dt.keep k _ (tup_stacks _) h3, Dt.keep k _ (tup_ints _) h4⟩
/-- a book that may be -/
structure Bk.Ok (M : Bk) : Prop where
  n0 : 1 ≤ M.names.length
  n1 : M.names.length ≤ 12
  nd : M.names.Nodup
  nm : ∀ z ∈ M.names, nameT z = true
  lg : M.gifts.length = M.names.length
  ls : M.stacks.length = M.names.length
  ld : M.drops.length = M.names.length
  many : (M.stacks.map List.length).sum ≤ 60
end Rc

namespace Rc
open PySem PySem.Spec PyProof.Rows L2
section
variable {X : Cx}
/-- tuple(l), the tuple known to the object -/
def rTupF (K : PySem.W.Frag) : List V → Hp → VK → Prop := fun vs H Q => ∃ p ys, vs = [.ref p] ∧ SqL K H p ys ∧ ∀ l o, H l = none → o.dict = none → Q (.ref l) (upd H l (.frz o (.tup ys)))
theorem call_tupF : CallR X (.type "tuple") (rTupF X.K) := by
  intro pins s σ H xs us Q I r h
  obtain ⟨p, ys, rfl, hq, q⟩ := h
  obtain ⟨u, rfl, rx⟩ := vals1 r
  cases rx
  obtain ⟨its, r', pl, hz⟩ := I.list hq
  have hlen := r'.length
  refine call_tuple_list pl.isList (fun h' kp => ?_) (by simp only [List.size_toArray] <;> omega)
  have I1 : L2.Inv X pins σ H { s with heap := h' } := I.kept (t' := s.toks) kp
  have e0 : (h'.push { cls := .type "tuple", data := .seq its.toArray }).get? h'.objs.size = some { cls := .type "tuple", data := .seq its.toArray } := Heap.get?_push_size _ rfl
  have I2 := I1.laid (a := h'.objs.size) (o := .frz { cls := .type "tuple", data := .seq its.toArray } (.tup ys)) (t' := s.toks) (h' := h'.push { cls := .type "tuple", data := .seq its.toArray })
    (fun b o e => Heap.get?_push_of_some _ e) (Nat.le_refl _) ⟨e0, hz, its, r', IsTup.new _ _⟩
  exact ⟨.ref h'.objs.size, _, I2, rfl, q _ _ (I1.hok.fresh (Nat.le_refl _)) rfl⟩
/-- t.m(e), t such a tuple -/
def tBMF (r : V → List V → Hp → VK → Prop) (to : TE) (t : TA) : TE := fun σ H Q => to σ H fun x H1 => ∃ p o xs, x = .ref p ∧ H1 p = some (.frz o (.tup xs)) ∧ o.dict = none ∧ t σ H1 fun vs H2 => r x vs H2 Q
theorem pe_bmF {o e : Expr} {es : List Expr} {to : TE} {t : TA} {name : Str} {apos cpos : Pos} {id : String} {r : V → List V → Hp → VK → Prop} (slot : Slot "tuple" name id) (hty : typeOf (.builtin id) = pure (.type "method_descriptor")) (hm : MtR X id r)
    (ho : PE X o to) (ha : PA X (e :: es) t) (hbase : attributeBase o name X.env (eval o X.env) = eval o X.env := by rfl)
    (hfew : ((backTo cpos (starEach (e :: es) X.env)).all (fun x => !x.1) && (backToKw cpos (keywordEach [] X.env)).all (fun x => x.1.isSome) &&
      decide ((e :: es).length + ([] : List Keyword).length + (if ([] : List Keyword).isEmpty then 0 else 1) < 30)) = true := by rfl)
    (hline : (apos.endLine == cpos.line) = true := by rfl) (hs : starEach (e :: es) X.env = (false, eval e X.env) :: starEach es X.env := by rfl)
    (hplain : (backTo cpos (starEach es X.env)).any (·.1) = false := by rfl) : PE X (.Call (.Attribute o name apos) (e :: es) [] cpos) (tBMF r to t) := by
  refine ⟨fun pins s σ H Q I h => wpAny_Call_method_late hbase hfew hline rfl (thn (ho.run pins s σ H _ I h) fun v s1 z => ?_)⟩
  obtain ⟨x, H1, I1, r1, p, ob, xs, rfl, hp, hd, q1⟩ := z
  cases r1
  obtain ⟨g1, _, its, rv, hT⟩ := I1.hok p _ hp
  obtain ⟨o2, g2, c2, _⟩ := hT
  rw [g1] at g2
  cases g2
  refine ⟨"tuple", id, PySem.F.plainAttrs_tuple, slot, hty, ⟨ob, g1, c2⟩, fun a e => ?_, ?_⟩
  · cases e
    exact ⟨ob, g1, hd⟩
  have hA := ha.run cpos pins s1 σ H1 _ I1 q1
  rw [hs] at hA ⊢
  refine Calls.callWith_builtin (by show (false || (backTo cpos (starEach es X.env)).any (·.1)) = false; rw [hplain] <;> rfl) (Calls.evalArgs_plain (thn hA fun us s2 z => ?_))
  obtain ⟨vs, H2, I2, r2, q2⟩ := z
  exact hm pins s2 σ H2 (.ref p) vs _ us Q I2 rfl r2 q2
/-- one of two readings of what is walked -/
theorem PI.or {tg e : Expr} {t1 t2 : TI} (h1 : PI X tg e t1) (h2 : PI X tg e t2) : PI X tg e (fun σ H R => t1 σ H R ∨ t2 σ H R) :=
  ⟨fun pins s σ H R I q => q.elim (h1.run pins s σ H R I) (h2.run pins s σ H R I)⟩
end
theorem inV_strs (z : Str) (zs : List Str) : inV (.str z) (zs.map V.str) = decide (z ∈ zs) := by
  unfold inV
  rw [List.any_map]
  induction zs with
  | nil => rfl
  | cons y r ih =>
    rw [List.any_cons, ih]
    show ((y == z) || decide (z ∈ r)) = decide (z ∈ y :: r)
    by_cases h : y = z
    · subst h
      simp
    · have h' : ¬ z = y := fun e => h e.symm
      rw [beq_eq_false_iff_ne.mpr h]
      simp [h']
end Rc

namespace Rc
open PySem PySem.Spec PyProof.Rows L2
/-- a def that is called -/
structure Has (P : Program) (w : World) (K : PySem.W.Frag) (mg : Str → Option Value) (base : Heap) (k : Nat) (nm : Str) (ps : List Str) (sp : Sp) (f : Addr) (fd : FuncData) : Prop where
  ok : FnOk P w K mg base CX0 k f fd ps sp
  g : mg nm = some (.ref f)
  kp : PySem.W.keepIn K (.ref f) = true
  b : Binds K fd ps []
/-- a method that is called -/
structure HasM (P : Program) (w : World) (K : PySem.W.Frag) (mg : Str → Option Value) (base : Heap) (C : Addr) (k : Nat) (nm : Str) (ps : List Str) (sp : Sp) (f : Addr) (fd : FuncData) : Prop where
  ok : FnOk P w K mg base CX0 k f fd ps sp
  m : Meth K C nm f
  b : Binds K fd ps []
structure Blt3 (mg : Str → Option Value) : Prop where
  list : mg "list" = none
  tuple : mg "tuple" = none
  enumerate : mg "enumerate" = none
  zip : mg "zip" = none
  sum : mg "sum" = none
  dict : mg "dict" = none
structure ClsF (K : PySem.W.Frag) (C : Addr) : Prop where
  cl : Cls K C
  n1 : NoAttr K C "names"
  n2 : NoAttr K C "gifts"
  n3 : NoAttr K C "stacks"
  n4 : NoAttr K C "drops"
section
variable {P : Program} {w : World} {K : PySem.W.Frag} {mg : Str → Option Value} {base : Heap}
/-! ### check_persons -/
abbrev sCheckP : Stmt := topS 26
theorem scCheckP : FnScope ["persons", "place", "name"] ["persons"] (defScope sCheckP) := ⟨rfl, rfl, rfl, by decide +kernel, rfl, by decide +kernel, by decide +kernel⟩
/-- names of which a book may be made -/
structure NamesOk (zs : List Str) : Prop where
  n0 : 1 ≤ zs.length
  n1 : zs.length ≤ 12
  nd : zs.Nodup
  nm : ∀ z ∈ zs, nameT z = true
theorem nameT_len {z : Str} (h : nameT z = true) : 1 ≤ z.length ∧ z.length ≤ 8 := by
  unfold nameT at h
  simp only [Bool.and_eq_true, decide_eq_true_eq] at h
  exact h.1
def spCheckP (K : PySem.W.Frag) : Sp := fun vs H Q _ => ∃ a zs, vs = [.ref a] ∧ H a = some (.lst (zs.map V.str)) ∧ NamesOk zs ∧ ∀ H', Same H H' → Q .non H'
theorem ok_checkP {f fN : Addr} {fd fdN : FuncData} (F : Fun K "check_persons" "check_persons" sCheckP f fd) (B : Blt mg) (B3 : Blt3 mg) (gM : ∃ t, mg "MOST_PERSONS" = some (.int 12 t))
    (N : Has P w K mg base 1 "is_name" ["thing"] (spBool K nameD) fN fdN) : FnOk P w K mg base CX0 2 f fd ["persons"] (spCheckP K) := by
  obtain ⟨tM, gM⟩ := gM
  refine F.ok scCheckP (fun vs H Q E h => ?_) (fun cdv A outer s H vs Q E hr h => ?_)
  · obtain ⟨a, zs, rfl, _⟩ := h
    rfl
  · obtain ⟨a, zs, rfl, ha, ok, q⟩ := h
    refine ⟨_, pss_cons (ps_if (PW.pt (pw_or (pt_not (pt_val (pe_callB call_isi (by rfl) B.isi (by decide +kernel) (pa_cons (pv 0) (pa_cons (pe_bltn (v := .ty "list") (by rfl) B3.list (by decide +kernel) rfl) pa_nil)))))
        (pw_or (pt_cmpR op_lt (pe_callB call_len_seq (by rfl) B.len PySem.boot_len (pa_cons (pv 0) pa_nil)) pe_int (nomark _))
        (pw_or1 (pt_cmpR op_gt (pe_callB call_len_seq (by rfl) B.len PySem.boot_len (pa_cons (pv 0) pa_nil)) (pe_glob (v := .int 12) (by rfl) gM ⟨_, rfl⟩) (nomark _)))))) pss_never pss_nil)
      (pss_one (ps_for PassesOwn.never rfl (pi_enum (by rfl) B3.enumerate (pa_cons (pv 0) pa_nil)) (pg_tup rfl (pgs_cons (pg_name (i := 1) scCheckP.nd rfl (.inl rfl)) (pgs_cons (pg_name (i := 2) scCheckP.nd rfl (.inl rfl)) pgs_nil)))
        (pss_cons (ps_if (pt_not (pt_val (pe_call N.ok hr (by rfl) N.g N.kp N.b .nil pass0 (pa_cons (pv 2) pa_nil)))) pss_never pss_nil)
        (pss_one (ps_if (pt_cmpR op_in_seq (pv 2) (pe_slice sl_list (pv 0) po_none (po_some (pv 1))) (by rfl)) pss_never pss_nil))))), ?_⟩
    have sq : SqL K H a (zs.map V.str) := .inl (.inl ha)
    refine ⟨.ref a, rfl, _, .ty "list", _, _, true, rfl, .ty "list", .base (.lst ha), kit_ty (by decide +kernel), _, rfl, iteF ?_⟩
    refine ⟨.ref a, rfl, a, _, rfl, .inl sq, _, _, rfl, rfl, _, rfl, ?_⟩
    have l0 := ok.n0
    have l1 := ok.n1
    rw [show decide (((zs.map V.str).length : Int) < 1) = false from decide_eq_false (by rw [List.length_map]; omega)]
    refine iteF ⟨.ref a, rfl, a, _, rfl, .inl sq, _, _, rfl, rfl, _, rfl, ?_⟩
    rw [show decide ((12 : Int) < ((zs.map V.str).length : Int)) = false from decide_eq_false (by rw [List.length_map]; omega)]
    refine iteF ⟨.ref a, rfl, a, _, rfl, sq, ?_⟩
    refine for_it (walk_enum (xs := zs.map V.str)) (fun i σ H' => ∃ y1 y2, σ = [some (.ref a), y1, y2] ∧ Same H H') ⟨_, _, rfl, Same.refl _⟩ (fun i σ H' _ hP => ?_) (fun i x σ H1' H1 hi hP hY => ?_) (fun σ H' hP => ?_)
    · obtain ⟨_, _, _, s⟩ := hP
      exact s.seq sq
    · obtain ⟨T, x1, x2, rfl, nT, rfl, e1, e2⟩ := hY
      obtain ⟨y1, y2, rfl, s1⟩ := hP
      cases e1
      have s2 := s1.trans (same_upd (o := .tup [V.int (i : Nat), x2]) nT)
      rw [List.length_map] at hi
      have ex : x2 = .str zs[i] := by
        have e2' : (zs.map V.str)[i]? = some x2 := e2
        rw [List.getElem?_map, List.getElem?_eq_getElem hi] at e2'
        exact (Option.some.inj e2').symm
      subst ex
      have hm : zs[i] ∈ zs := List.getElem_mem hi
      have nm := ok.nm _ hm
      refine ⟨T, _, rfl, .inl (.inl upd_same), rfl, _, _, rfl, _, _, rfl, rfl, ?_⟩
      refine ⟨.str zs[i], rfl, .str zs[i], .str zs[i], rfl, .str _, fun z e => by cases e; have := (nameT_len nm).2; omega, fun H2 sm => ⟨_, rfl, ?_⟩⟩
      have e3 : nameD (.str zs[i]) = true := nm
      rw [e3]
      refine iteF ⟨.str zs[i], rfl, .ref a, rfl, .int (i : Nat), rfl, _, rfl, a, _, rfl, sm.seq (s2.seq sq), fun p np => ?_⟩
      rw [cut_take, ← List.map_take]
      refine ⟨p, _, rfl, .inl (.inl (.inl upd_same)), rfl, flat_strs _, _, rfl, ?_⟩
      have no : ¬ zs[i] ∈ zs.take i := fun z => by
        obtain ⟨j, hj, e⟩ := List.getElem_of_mem z
        rw [List.length_take] at hj
        rw [List.getElem_take] at e
        have := (List.getElem_inj ok.nd).mp e
        omega
      show if inV (.str zs[i]) ((zs.take i).map V.str) = true then _ else _
      rw [inV_strs, decide_eq_false no]
      exact iteF ⟨_, _, rfl, s2.trans (sm.trans (same_upd np))⟩
    · obtain ⟨_, _, rfl, s⟩ := hP
      exact q _ s
/-! ### check_amount -/
abbrev sCheckA : Stmt := topS 27
theorem scCheckA : FnScope ["amount"] ["amount"] (defScope sCheckA) := ⟨rfl, rfl, rfl, by decide +kernel, rfl, by decide +kernel, by decide +kernel⟩
def spCheckA (K : PySem.W.Frag) : Sp := fun vs H Q _ => ∃ n : Int, vs = [.int n] ∧ 1 ≤ n ∧ ∀ H', Same H H' → Q .non H'
theorem ok_checkA {f fN : Addr} {fd fdN : FuncData} (F : Fun K "check_amount" "check_amount" sCheckA f fd)
    (N : Has P w K mg base 2 "is_amount" ["thing"] (spBool K amountD) fN fdN) : FnOk P w K mg base CX0 3 f fd ["amount"] (spCheckA K) := by
  refine F.ok scCheckA (fun vs H Q E h => ?_) (fun cdv A outer s H vs Q E hr h => ?_)
  · obtain ⟨a, rfl, _⟩ := h
    rfl
  · obtain ⟨n, rfl, n1, q⟩ := h
    refine ⟨_, pss_one (ps_if (pt_not (pt_val (pe_call N.ok hr (by rfl) N.g N.kp N.b .nil pass0 (pa_cons (pv 0) pa_nil)))) pss_never pss_nil), ?_⟩
    refine ⟨_, rfl, _, .int n, rfl, .int n, (fun z e => by cases e), fun H' sm => ⟨_, rfl, ?_⟩⟩
    have e : amountD (.int n) = true := decide_eq_true n1
    rw [e]
    exact iteF (q _ sm)
/-! ### with_changed -/
abbrev sChg : Stmt := topS 29
theorem scChg : FnScope ["row", "place", "thing"] ["row", "place", "thing"] (defScope sChg) := ⟨rfl, rfl, rfl, by decide +kernel, rfl, by decide +kernel, by decide +kernel⟩
def spChg (K : PySem.W.Frag) : Sp := fun vs H Q _ => ∃ v ds n t d, vs = [v, .int (n : Nat), t] ∧ Dt K H v (.tuple ds) ∧ Dt K H t d ∧ n < ds.length ∧ ds.length ≤ 100 ∧ ∀ v' H', Same H H' → Dt K H' v' (.tuple (ds.set n d)) → Q v' H'
theorem set_parts {α : Type} (ds : List α) (n : Nat) (d : α) (h : n < ds.length) : ds.take n ++ [d] ++ ds.drop (n + 1) = ds.set n d := by
  rw [List.set_eq_take_append_cons_drop, if_pos h, List.append_assoc]
  rfl
theorem ok_chg {f : Addr} {fd : FuncData} (F : Fun K "with_changed" "with_changed" sChg f fd) : FnOk P w K mg base CX0 1 f fd ["row", "place", "thing"] (spChg K) := by
  refine F.ok scChg (fun vs H Q E h => ?_) (fun cdv A outer s H vs Q E hr h => ?_)
  · obtain ⟨_, _, _, _, _, rfl, _⟩ := h
    rfl
  · obtain ⟨v, ds, n, t, d, rfl, hv, ht, hn, hz, q⟩ := h
    refine ⟨_, pss_one (ps_ret (pe_op op_catD (pe_op op_catD (pe_slice sl_tupD (pv 0) po_none (po_some (pv 1))) (pe_tup (pa_cons (pv 2) pa_nil))) (pe_slice sl_tupD (pv 0) (po_some (pe_op op_add (pv 1) pe_int)) po_none))), ?_⟩
    refine ⟨v, rfl, .int (n : Nat), rfl, (n : Nat), rfl, ds, hv, .inl ⟨n, rfl, rfl, fun v1 H1 s1 d1 => ?_⟩⟩
    refine ⟨t, rfl, by show 1 ≤ sizeLine; decide, fun p np => ⟨ds.take n, [d], Dt.same (same_upd np) _ d1, .tup (.inl (.inl upd_same)) (.cons (Dt.same (s1.trans (same_upd np)) _ ht) .nil), ?_, fun v2 H2 s2 d2 => ?_⟩⟩
    · rw [List.length_take, List.length_singleton]
      omega
    have s02 := s1.trans ((same_upd np).trans s2)
    refine ⟨v, rfl, .int (n : Nat), rfl, _, _, rfl, rfl, _, rfl, ds, Dt.same s02 _ hv, .inr ⟨n + 1, rfl, rfl, fun v3 H3 s3 d3 => ⟨_, _, Dt.same s3 _ d2, d3, ?_, fun v4 H4 s4 d4 => ?_⟩⟩⟩
    · rw [List.length_append, List.length_take, List.length_drop, List.length_singleton]
      omega
    · rw [set_parts ds n d hn] at d4
      exact q _ _ (s02.trans (s3.trans s4)) d4
end
end Rc

namespace Rc
open PySem PySem.Spec PyProof.Rows L2
/-- a list (k) or a tuple -/
def Sq (K : PySem.W.Frag) (k : Bool) (H : Hp) (a : Addr) (xs : List V) : Prop := if k = true then SqL K H a xs else SqT K H a xs
theorem same_seqT {K : PySem.W.Frag} {H H' : Hp} {a : Addr} {xs : List V} (e : Same H H') (h : SqT K H a xs) : SqT K H' a xs := by
  rcases h with (h | ⟨o, h⟩) | h
  · exact .inl (.inl (e _ _ h))
  · exact .inl (.inr ⟨o, e _ _ h⟩)
  · exact .inr h
theorem Sq.same {K : PySem.W.Frag} {k : Bool} {H H' : Hp} {a : Addr} {xs : List V} (h : Sq K k H a xs) (e : Same H H') : Sq K k H' a xs := by
  cases k with
  | true => exact e.seq h
  | false => exact same_seqT e h
/-- a list or a tuple that stands in slot i -/
def iSeqV (K : PySem.W.Frag) (i : Nat) : TI := fun σ H R => ∃ a xs k, σ[i]? = some (some (.ref a)) ∧ Sq K k H a xs ∧ ∀ J G, Walk J xs.length G (YAt xs) → (∀ H', Sq K k H' a xs → G H') → R J H
theorem pi_seqV {X : Cx} {tg : Expr} (i : Nat) {x : Str} {pos : Pos} (h : PE X (.Name x pos) (tVar i)) : PI X tg (.Name x pos) (iSeqV X.K i) := by
  refine ⟨fun pins s σ H R I q => ?_⟩
  obtain ⟨a, xs, k, e, hq, q⟩ := q
  cases k with
  | true => exact (pi_list h).run pins s σ H R I ⟨_, e, a, rfl, ⟨xs, hq⟩, q _ _ walk_list fun H' z => z⟩
  | false => exact (pi_tup h).run pins s σ H R I ⟨_, e, a, rfl, ⟨xs, hq⟩, q _ _ walk_tup fun H' z => z⟩
/-! ### notes that fall from above -/
def partOf (a f : Int) : Int := if f < a then f else a
def goneN : List (Str × Int) → Int → List (Str × Int)
  | [], _ => []
  | (t, a) :: r, f => (if 0 < partOf a f then [(t, partOf a f)] else []) ++ goneN r (f - partOf a f)
def leftN : List (Str × Int) → Int → List (Str × Int)
  | [], _ => []
  | (t, a) :: r, f => (if partOf a f < a then [(t, a - partOf a f)] else []) ++ leftN r (f - partOf a f)
theorem goneN_nil (f : Int) : goneN [] f = [] := rfl
theorem leftN_nil (f : Int) : leftN [] f = [] := rfl
theorem goneN_cons (t : Str) (a f : Int) (r : List (Str × Int)) : goneN ((t, a) :: r) f = (if 0 < partOf a f then [(t, partOf a f)] else []) ++ goneN r (f - partOf a f) := rfl
theorem leftN_cons (t : Str) (a f : Int) (r : List (Str × Int)) : leftN ((t, a) :: r) f = (if partOf a f < a then [(t, a - partOf a f)] else []) ++ leftN r (f - partOf a f) := rfl
theorem goneN_len : ∀ (l : List (Str × Int)) (f : Int), (goneN l f).length ≤ l.length
  | [], _ => Nat.le_refl _
  | (t, a) :: r, f => by
    have := goneN_len r (f - partOf a f)
    unfold goneN
    rw [List.length_append, List.length_cons]
    split <;> simp <;> omega
theorem leftN_len : ∀ (l : List (Str × Int)) (f : Int), (leftN l f).length ≤ l.length
  | [], _ => Nat.le_refl _
  | (t, a) :: r, f => by
    have := leftN_len r (f - partOf a f)
    unfold leftN
    rw [List.length_append, List.length_cons]
    split <;> simp <;> omega
theorem DtAll.notes_get {K : PySem.W.Frag} {H : Hp} {xs : List V} {l : List (Str × Int)} {i : Nat} {x : V} (h : DtAll K H xs (notesD l)) (e : xs[i]? = some x) : ∃ (hi : i < l.length), Dt K H x (noteD l[i]) := by
  have hl := h.len
  have hi : i < xs.length := (List.getElem?_eq_some_iff.mp e).1
  have hi' : i < l.length := by
    unfold notesD at hl
    rw [List.length_map] at hl
    omega
  refine ⟨hi', ?_⟩
  have g : (notesD l)[i]? = some (noteD l[i]) := by
    unfold notesD
    rw [List.getElem?_map, List.getElem?_eq_getElem hi']
    rfl
  obtain ⟨v, e1, e2⟩ := h.get g
  rw [e] at e1
  cases e1
  exact e2
theorem note_inv {K : PySem.W.Frag} {H : Hp} {v : V} {n : Str × Int} (h : Dt K H v (noteD n)) : ∃ a, v = .ref a ∧ SqT K H a [.str n.1, .int n.2] := by
  obtain ⟨a, xs, rfl, q, d⟩ := h.tup_inv
  cases d with
  | cons d1 d2 =>
    cases d1
    cases d2 with
    | cons d3 d4 =>
      cases d3
      cases d4
      exact ⟨a, rfl, q⟩
section
variable {P : Program} {w : World} {K : PySem.W.Frag} {mg : Str → Option Value} {base : Heap}
abbrev sSplit : Stmt := topS 28
abbrev nSplit : List Str := ["notes", "fallen", "gone", "left", "to", "amount", "part"]
theorem scSplit : FnScope nSplit ["notes", "fallen"] (defScope sSplit) := ⟨rfl, rfl, rfl, by decide +kernel, rfl, by decide +kernel, by decide +kernel⟩
def spSplit (K : PySem.W.Frag) : Sp := fun vs H Q _ => ∃ a xs kd l f, vs = [.ref a, .int f] ∧ Sq K kd H a xs ∧ DtAll K H xs (notesD l) ∧ l.length ≤ 100 ∧
  ∀ t g m gx mx H', Same H H' → H' t = some (.tup [.ref g, .ref m]) → H g = none → H m = none → g ≠ m → H' g = some (.lst gx) → H' m = some (.lst mx) → DtAll K H' gx (notesD (goneN l f)) → DtAll K H' mx (notesD (leftN l f)) → Q (.ref t) H'
theorem ok_split {f : Addr} {fd : FuncData} (F : Fun K "split_notes" "split_notes" sSplit f fd) (B2 : Blt2 mg) : FnOk P w K mg base CX0 1 f fd ["notes", "fallen"] (spSplit K) := by
  refine F.ok scSplit (fun vs H Q E h => ?_) (fun cdv A outer s H vs Q E hr h => ?_)
  · obtain ⟨_, _, _, _, _, rfl, _⟩ := h
    rfl
  · obtain ⟨a, xs, kd, l, f, rfl, hq, hd, hz, q⟩ := h
    refine ⟨_, pss_cons (ps_set (i := 2) scSplit.nd rfl (.inl rfl) (pe_lst pa_nil)) (pss_cons (ps_set (i := 3) scSplit.nd rfl (.inl rfl) (pe_lst pa_nil))
      (pss_cons (ps_for PassesOwn.never rfl (pi_seqV 0 (pv 0)) (pg_tup rfl (pgs_cons (pg_name (i := 4) scSplit.nd rfl (.inl rfl)) (pgs_cons (pg_name (i := 5) scSplit.nd rfl (.inl rfl)) pgs_nil)))
        (pss_cons (ps_set (i := 6) scSplit.nd rfl (.inl rfl) (pe_callB (call_min2 rfl) (by rfl) B2.min (by decide +kernel) (pa_cons (pv 5) (pa_cons (pv 1) pa_nil))))
        (pss_cons (ps_aug (i := 1) scSplit.nd rfl (.inl rfl) (pv 6) ip_sub)
        (C8.pss_cut (ps_if (pt_cmpR op_gt (pv 6) pe_int (nomark _)) (pss_one (ps_expr (pe_bm PySem.F.plainAttrs_list PySem.F.slot_list_append PySem.F.type_list_append mt_append (pv 2) (pa_cons (pe_tup (pa_cons (pv 4) (pa_cons (pv 6) pa_nil))) pa_nil)))) pss_nil)
        (pss_one (ps_if (pt_cmpR op_lt (pv 6) (pv 5) (nomark _)) (pss_one (ps_expr (pe_bm PySem.F.plainAttrs_list PySem.F.slot_list_append PySem.F.type_list_append mt_append (pv 3) (pa_cons (pe_tup (pa_cons (pv 4) (pa_cons (pe_op op_sub (pv 5) (pv 6)) pa_nil))) pa_nil)))) pss_nil))))))
      (pss_one (ps_ret (pe_tup (pa_cons (pv 2) (pa_cons (pv 3) pa_nil))))))), ?_⟩
    refine ⟨Nat.zero_le _, fun g ng => ⟨Nat.zero_le _, fun m nm => ?_⟩⟩
    have gm : g ≠ m := fun z => by
      rw [← z, upd_same] at nm
      cases nm
    have nmH : H m = none := by
      rw [upd_ne gm.symm] at nm
      exact nm
    have s0 : Same H (upd (upd H g (.lst [])) m (.lst [])) := (same_upd ng).trans (same_upd nm)
    refine ⟨a, xs, kd, rfl, hq.same s0, fun J G wk hG => ?_⟩
    have fresh : ∀ b o, H b = some o → b ≠ g ∧ b ≠ m := fun b o e => ⟨ne_of_none e ng, ne_of_none e nmH⟩
    refine for_it wk (fun i σ H' => ∃ y4 y5 y6 fi gx mx Gs Ms, σ = [some (.ref a), some (.int fi), some (.ref g), some (.ref m), y4, y5, y6] ∧ Same H H' ∧ H' g = some (.lst gx) ∧ H' m = some (.lst mx) ∧
        DtAll K H' gx (notesD Gs) ∧ DtAll K H' mx (notesD Ms) ∧ Gs.length ≤ i ∧ Ms.length ≤ i ∧ Gs ++ goneN (l.drop i) fi = goneN l f ∧ Ms ++ leftN (l.drop i) fi = leftN l f)
      ⟨_, _, _, f, [], [], [], [], rfl, s0, by rw [upd_ne gm, upd_same], upd_same, .nil, .nil, Nat.le_refl _, Nat.le_refl _, rfl, rfl⟩ (fun i σ H' _ hP => ?_) (fun i x σ H1' H1 hi hP hY => ?_) (fun σ H' hP => ?_)
    · obtain ⟨_, _, _, _, _, _, _, _, _, s1, _⟩ := hP
      exact hG _ (hq.same s1)
    · obtain ⟨rfl, ex⟩ := hY
      obtain ⟨y4, y5, y6, fi, gx, mx, Gs, Ms, rfl, s1, hg, hm, dg, dm, lg, lm, eg, em⟩ := hP
      obtain ⟨hil, dn⟩ := (DtAll.same s1 _ hd).notes_get ex
      obtain ⟨ta, rfl, qt⟩ := note_inv dn
      have ed : l.drop i = l[i] :: l.drop (i + 1) := List.drop_eq_getElem_cons hil
      rw [ed] at eg em
      obtain ⟨t, am, el⟩ : ∃ t am, l[i] = (t, am) := ⟨_, _, rfl⟩
      rw [el] at eg em qt
      rw [goneN_cons] at eg
      rw [leftN_cons] at em
      have dgl := dg.len
      have dml := dm.len
      unfold notesD at dgl dml
      rw [List.length_map] at dgl dml
      refine ⟨ta, _, rfl, qt, rfl, _, _, rfl, _, _, rfl, rfl, ?_⟩
      refine ⟨.int am, rfl, .int fi, rfl, _, _, rfl, ?_⟩
      have ep : (if fi < am then fi else am) = partOf am fi := rfl
      rw [ep]
      generalize partOf am fi = pt at eg em
      refine ⟨_, rfl, _, rfl, _, _, rfl, rfl, ?_⟩
      refine ⟨fun σ2 H2 => ∃ gx2 Gs2, σ2 = [some (V.ref a), some (V.int (fi - pt)), some (V.ref g), some (V.ref m), some (V.str t), some (V.int am), some (V.int pt)] ∧ Same H H2 ∧ H2 g = some (.lst gx2) ∧ H2 m = some (.lst mx) ∧ DtAll K H2 gx2 (notesD Gs2) ∧ DtAll K H2 mx (notesD Ms) ∧
        Gs2.length ≤ i + 1 ∧ Gs2 ++ goneN (l.drop (i + 1)) (fi - pt) = goneN l f, ?_, ?_⟩
      · refine ⟨.int pt, rfl, _, _, rfl, rfl, _, rfl, ite2 (fun e => ?_) (fun e => ?_)⟩
        · have e' := of_decide_eq_true e
          rw [if_pos e'] at eg
          refine ⟨.ref g, rfl, .inl ⟨rfl, _, .inl (.inl hg)⟩, .str t, rfl, .int pt, rfl, by show 2 ≤ sizeLine; decide, fun p np => ⟨g, gx, _, rfl, rfl, ?_, small1000 (by omega), ?_⟩⟩
          · rw [upd_ne (ne_of_none hg np)]
            exact hg
          have pm : p ≠ m := (ne_of_none hm np).symm
          have pg : p ≠ g := (ne_of_none hg np).symm
          have kp : Kp H1 (upd (upd H1 p (.tup [.str t, .int pt])) g (.lst (gx ++ [.ref p]))) := fun b o e fx => by
            have nb : b ≠ g := fun z => by
              rw [z, hg] at e
              cases e
              exact fx
            rw [upd_ne nb, upd_ne (ne_of_none e np)]
            exact e
          refine ⟨gx ++ [.ref p], Gs ++ [(t, pt)], rfl, fun b o e => ?_, upd_same, ?_, ?_, DtAll.keep kp _ (tup_notes _) dm, ?_, ?_⟩
          · rw [upd_ne (fresh b o e).1, upd_ne (ne_of_none (s1 b o e) np)]
            exact s1 b o e
          · rw [upd_ne gm.symm, upd_ne pm.symm]
            exact hm
          · unfold notesD
            rw [List.map_append]
            refine (DtAll.keep kp _ (tup_notes _) dg).append (.cons (.tup (.inl (.inl ?_)) (.cons (.str _) (.cons (.int _) .nil))) .nil)
            rw [upd_ne pg, upd_same]
          · rw [List.length_append]
            exact Nat.add_le_add_right lg 1
          · rw [List.append_assoc]
            exact eg
        · have e' : ¬ 0 < pt := fun c => e (decide_eq_true c)
          rw [if_neg e'] at eg
          exact ⟨gx, Gs, rfl, s1, hg, hm, dg, dm, Nat.le_succ_of_le lg, eg⟩
      · rintro σ2 H2 ⟨gx2, Gs2, rfl, s2, hg2, hm2, dg2, dm2, lg2, eg2⟩
        refine ⟨.int pt, rfl, .int am, rfl, _, _, rfl, rfl, _, rfl, ite2 (fun e => ?_) (fun e => ?_)⟩
        · have e' := of_decide_eq_true e
          rw [if_pos e'] at em
          refine ⟨.ref m, rfl, .inl ⟨rfl, _, .inl (.inl hm2)⟩, .str t, rfl, .int am, rfl, .int pt, rfl, _, _, rfl, rfl, by show 2 ≤ sizeLine; decide, fun p np => ⟨m, mx, _, rfl, rfl, ?_, small1000 (by omega), ?_⟩⟩
          · rw [upd_ne (ne_of_none hm2 np)]
            exact hm2
          have pm : p ≠ m := (ne_of_none hm2 np).symm
          have pg : p ≠ g := (ne_of_none hg2 np).symm
          have kp : Kp H2 (upd (upd H2 p (.tup [.str t, .int (am - pt)])) m (.lst (mx ++ [.ref p]))) := fun b o e fx => by
            have nb : b ≠ m := fun z => by
              rw [z, hm2] at e
              cases e
              exact fx
            rw [upd_ne nb, upd_ne (ne_of_none e np)]
            exact e
          refine ⟨_, _, _, fi - pt, gx2, mx ++ [.ref p], Gs2, Ms ++ [(t, am - pt)], rfl, fun b o e => ?_, ?_, upd_same, DtAll.keep kp _ (tup_notes _) dg2, ?_, lg2, ?_, eg2, ?_⟩
          · rw [upd_ne (fresh b o e).2, upd_ne (ne_of_none (s2 b o e) np)]
            exact s2 b o e
          · rw [upd_ne gm, upd_ne pg.symm]
            exact hg2
          · unfold notesD
            rw [List.map_append]
            refine (DtAll.keep kp _ (tup_notes _) dm2).append (.cons (.tup (.inl (.inl ?_)) (.cons (.str _) (.cons (.int _) .nil))) .nil)
            rw [upd_ne pm, upd_same]
          · rw [List.length_append]
            exact Nat.add_le_add_right lm 1
          · rw [List.append_assoc]
            exact em
        · have e' : ¬ pt < am := fun c => e (decide_eq_true c)
          rw [if_neg e'] at em
          exact ⟨_, _, _, fi - pt, gx2, mx, Gs2, Ms, rfl, s2, hg2, hm2, dg2, dm2, lg2, Nat.le_succ_of_le lm, eg2, em⟩
    · obtain ⟨y4, y5, y6, fi, gx, mx, Gs, Ms, rfl, s1, hg, hm, dg, dm, lg, lm, eg, em⟩ := hP
      have hx : l.drop xs.length = [] := List.drop_of_length_le (by
        have := hd.len
        unfold notesD at this
        rw [List.length_map] at this
        omega)
      rw [hx] at eg em
      rw [goneN_nil, List.append_nil] at eg
      rw [leftN_nil, List.append_nil] at em
      subst eg em
      refine ⟨.ref g, rfl, .ref m, rfl, by show 2 ≤ sizeLine; decide, fun t nt => ?_⟩
      have st := same_upd (o := .tup [.ref g, .ref m]) nt
      exact q t g m gx mx _ (s1.trans st) upd_same ng nmH gm (st _ _ hg) (st _ _ hm) (DtAll.same st _ dg) (DtAll.same st _ dm)
end
end Rc

namespace Rc
open PySem PySem.Spec PyProof.Rows L2
abbrev inBook (i : Nat) : Stmt := inClass (topS 30) i
theorem Bk.Ok.names {M : Bk} (h : M.Ok) : NamesOk M.names := ⟨h.n0, h.n1, h.nd, h.nm⟩
def newBk (zs : List Str) : Bk := ⟨zs, List.replicate zs.length 0, List.replicate zs.length [], List.replicate zs.length 0⟩
theorem putF_miss {f g : Str} {v x : V} {r : List (Str × V)} (h : ¬ g = f) : putF f v ((g, x) :: r) = (g, x) :: putF f v r := by
  show (if g = f then (g, v) :: r else (g, x) :: putF f v r) = _
  rw [if_neg h]
theorem putF_hit {f : Str} {v x : V} {r : List (Str × V)} : putF f v ((f, x) :: r) = (f, v) :: r := by
  show (if f = f then (f, v) :: r else (f, x) :: putF f v r) = _
  rw [if_pos rfl]
theorem put1 (a : V) : putF "names" a [] = ([("names", a)] : List (Str × V)) := rfl
theorem put2 (a b : V) : putF "gifts" b [("names", a)] = ([("names", a), ("gifts", b)] : List (Str × V)) := by
  rw [putF_miss (by decide +kernel)]
  rfl
theorem put3 (a b c : V) : putF "stacks" c [("names", a), ("gifts", b)] = ([("names", a), ("gifts", b), ("stacks", c)] : List (Str × V)) := by
  rw [putF_miss (by decide +kernel), putF_miss (by decide +kernel)]
  rfl
theorem put4 (a b c d : V) : putF "drops" d [("names", a), ("gifts", b), ("stacks", c)] = bf a b c d := by
  rw [putF_miss (by decide +kernel), putF_miss (by decide +kernel), putF_miss (by decide +kernel)]
  rfl
theorem putG (a b c d e : V) : putF "gifts" e (bf a b c d) = bf a e c d := by
  unfold bf
  rw [putF_miss (by decide +kernel), putF_hit]
theorem putS (a b c d e : V) : putF "stacks" e (bf a b c d) = bf a b e d := by
  unfold bf
  rw [putF_miss (by decide +kernel), putF_miss (by decide +kernel), putF_hit]
theorem putD (a b c d e : V) : putF "drops" e (bf a b c d) = bf a b c e := by
  unfold bf
  rw [putF_miss (by decide +kernel), putF_miss (by decide +kernel), putF_miss (by decide +kernel), putF_hit]
theorem bf_len (a b c d : V) : (bf a b c d).length < 1000 := by
  show 4 < 1000
  decide
section
variable {P : Program} {w : World} {K : PySem.W.Frag} {mg : Str → Option Value} {base : Heap}
/-! ### __init__ -/
abbrev sInit : Stmt := inBook 0
theorem scInit : FnScope ["self", "persons"] ["self", "persons"] (defScope sInit) := ⟨rfl, rfl, rfl, by decide +kernel, rfl, by decide +kernel, by decide +kernel⟩
def spInit (K : PySem.W.Frag) (C : Addr) : Sp := fun vs H Q _ => ∃ x dx a zs, vs = [.ref x, .ref a] ∧ H x = some (.ins C dx []) ∧ H a = some (.lst (zs.map V.str)) ∧ NamesOk zs ∧ ∀ H', But x H H' → BookAt K C H' x (newBk zs) → Q .non H'
theorem ok_init {f fc C : Addr} {fd fdc : FuncData} (F : Fun K "__init__" "Book.__init__" sInit f fd) (T : ClsF K C) (B : Blt mg) (B3 : Blt3 mg)
    (CP : Has P w K mg base 2 "check_persons" ["persons"] (spCheckP K) fc fdc) : FnOk P w K mg base CX0 3 f fd ["self", "persons"] (spInit K C) := by
  refine F.ok scInit (fun vs H Q E h => ?_) (fun cdv A outer s H vs Q E hr h => ?_)
  · obtain ⟨_, _, _, _, rfl, _⟩ := h
    rfl
  · obtain ⟨x, dx, a, zs, rfl, hx, ha, ok, q⟩ := h
    refine ⟨_, pss_cons (ps_expr (pe_call CP.ok hr (by rfl) CP.g CP.kp CP.b .nil pass0 (pa_cons (pv 1) pa_nil)))
      (pss_cons (ps_fld (pv 0) (pe_callTy call_tupF (by rfl) B3.tuple (by decide +kernel) (pa_cons (pv 1) pa_nil)) rfl)
      (pss_cons (ps_fld (pv 0) (pe_op op_repD (pe_tup (pa_cons pe_int pa_nil)) (pe_callB call_len_seq (by rfl) B.len PySem.boot_len (pa_cons (pv 1) pa_nil))) rfl)
      (pss_cons (ps_fld (pv 0) (pe_op op_repD (pe_tup (pa_cons (pe_tup pa_nil) pa_nil)) (pe_callB call_len_seq (by rfl) B.len PySem.boot_len (pa_cons (pv 1) pa_nil))) rfl)
      (pss_one (ps_fld (pv 0) (pe_op op_repD (pe_tup (pa_cons pe_int pa_nil)) (pe_callB call_len_seq (by rfl) B.len PySem.boot_len (pa_cons (pv 1) pa_nil))) rfl))))), ?_⟩
    have l0 := ok.n0
    have l1 := ok.n1
    have el : (zs.map V.str).length = zs.length := List.length_map ..
    have nxa : a ≠ x := ne_of ha hx (by intro z; cases z)
    refine ⟨.ref a, rfl, a, zs, rfl, ha, ok, fun H1 s1 => ?_⟩
    -- self.names = tuple(persons)
    refine ⟨.ref a, rfl, a, _, rfl, .inl (.inl (s1 _ _ ha)), fun tn on ntn don => ?_⟩
    have s2 : Same H1 (upd H1 tn (.frz on (.tup (zs.map V.str)))) := same_upd ntn
    have ntx : x ≠ tn := ne_of_none (s1 _ _ hx) ntn
    refine ⟨.ref x, rfl, x, C, dx, _, rfl, s2 _ _ (s1 _ _ hx), T.cl, T.n1, by show 0 < 1000; decide, ?_⟩
    rw [put1]
    generalize hH3 : upd (upd H1 tn (.frz on (.tup (zs.map V.str)))) x (.ins C dx [("names", V.ref tn)]) = H3
    have b3 : But x H H3 := by
      rw [← hH3]
      exact (same_but (s1.trans s2)).trans But.at
    have x3 : H3 x = some (.ins C dx [("names", V.ref tn)]) := by
      rw [← hH3, upd_same]
    have t3 : H3 tn = some (.frz on (.tup (zs.map V.str))) := by
      rw [← hH3, upd_ne ntx.symm, upd_same]
    -- self.gifts
    refine ⟨by show 1 ≤ sizeLine; decide, fun t1 nt1 => ?_⟩
    have s4 := same_upd (o := .tup [V.int 0]) nt1
    refine ⟨.ref a, rfl, a, _, rfl, .inl (.inl (.inl (s4 _ _ (b3 _ _ nxa ha)))), .int 0, zs.length, .tup (.inl (.inl upd_same)) (.cons (.int 0) .nil), by rw [el], l0, by omega, fun vg H5 s5 dg => ?_⟩
    have s35 := s4.trans s5
    refine ⟨.ref x, rfl, x, C, dx, _, rfl, s35 _ _ x3, T.cl, T.n2, by show 1 < 1000; decide, ?_⟩
    rw [put2]
    have k6 : KT H5 (upd H5 x (.ins C dx [("names", V.ref tn), ("gifts", vg)])) := kt_upd (s35 _ _ x3) (fun z => z)
    have b6 : But x H (upd H5 x (.ins C dx [("names", V.ref tn), ("gifts", vg)])) := b3.trans ((same_but s35).trans But.at)
    have k36 : KT H3 (upd H5 x (.ins C dx [("names", V.ref tn), ("gifts", vg)])) := (kt_same s35).trans k6
    generalize hH6 : upd H5 x (.ins C dx [("names", V.ref tn), ("gifts", vg)]) = H6 at k6 b6 k36
    have x6 : H6 x = some (.ins C dx [("names", V.ref tn), ("gifts", vg)]) := by
      rw [← hH6, upd_same]
    have dg6 := Dt.keepT k6 _ (by rw [← List.map_replicate]; exact tup_ints _) dg
    -- self.stacks
    refine ⟨by show 0 ≤ sizeLine; decide, fun t0 nt0 => ⟨by show 1 ≤ sizeLine; decide, fun t2 nt2 => ?_⟩⟩
    have s7 := (same_upd (o := .tup []) nt0).trans (same_upd (o := .tup [V.ref t0]) nt2)
    refine ⟨.ref a, rfl, a, _, rfl, .inl (.inl (.inl (s7 _ _ (b6 _ _ nxa ha)))), .tuple [], zs.length, .tup (.inl (.inl upd_same)) (.cons (.tup (.inl (.inl (same_upd nt2 _ _ upd_same))) .nil) .nil), by rw [el], l0, by omega, fun vs H8 s8 ds => ?_⟩
    have s68 := s7.trans s8
    refine ⟨.ref x, rfl, x, C, dx, _, rfl, s68 _ _ x6, T.cl, T.n3, by show 2 < 1000; decide, ?_⟩
    rw [put3]
    have k9 : KT H8 (upd H8 x (.ins C dx [("names", V.ref tn), ("gifts", vg), ("stacks", vs)])) := kt_upd (s68 _ _ x6) (fun z => z)
    have b9 : But x H (upd H8 x (.ins C dx [("names", V.ref tn), ("gifts", vg), ("stacks", vs)])) := b6.trans ((same_but s68).trans But.at)
    have k69 : KT H6 (upd H8 x (.ins C dx [("names", V.ref tn), ("gifts", vg), ("stacks", vs)])) := (kt_same s68).trans k9
    generalize hH9 : upd H8 x (.ins C dx [("names", V.ref tn), ("gifts", vg), ("stacks", vs)]) = H9 at k9 b9 k69
    have x9 : H9 x = some (.ins C dx [("names", V.ref tn), ("gifts", vg), ("stacks", vs)]) := by
      rw [← hH9, upd_same]
    have ts : tupD (.tuple (List.replicate zs.length (.tuple []))) = true := by
      have := tup_stacks (List.replicate zs.length [])
      rw [List.map_replicate] at this
      exact this
    have ds9 := Dt.keepT k9 _ ts ds
    -- self.drops
    refine ⟨by show 1 ≤ sizeLine; decide, fun t3' nt3 => ?_⟩
    have s10 := same_upd (o := .tup [V.int 0]) nt3
    refine ⟨.ref a, rfl, a, _, rfl, .inl (.inl (.inl (s10 _ _ (b9 _ _ nxa ha)))), .int 0, zs.length, .tup (.inl (.inl upd_same)) (.cons (.int 0) .nil), by rw [el], l0, by omega, fun vd H11 s11 dd => ?_⟩
    have s911 := s10.trans s11
    refine ⟨.ref x, rfl, x, C, dx, _, rfl, s911 _ _ x9, T.cl, T.n4, by show 3 < 1000; decide, ?_⟩
    rw [put4]
    have k12 : KT H11 (upd H11 x (.ins C dx (bf (.ref tn) vg vs vd))) := kt_upd (s911 _ _ x9) (fun z => z)
    have k912 : KT H9 (upd H11 x (.ins C dx (bf (.ref tn) vg vs vd))) := (kt_same s911).trans k12
    refine q _ (b9.trans ((same_but s911).trans But.at)) ⟨dx, tn, on, vg, vs, vd, upd_same, (k36.trans (k69.trans k912)) _ _ t3 trivial, don, ?_, ?_, ?_⟩
    · show Dt K _ vg (.tuple ((List.replicate zs.length (0 : Int)).map .int))
      rw [List.map_replicate]
      exact Dt.keepT (k69.trans k912) _ (by rw [← List.map_replicate]; exact tup_ints _) dg6
    · show Dt K _ vs (.tuple ((List.replicate zs.length []).map stackD))
      rw [List.map_replicate]
      exact Dt.keepT k912 _ ts ds9
    · show Dt K _ vd (.tuple ((List.replicate zs.length (0 : Int)).map .int))
      rw [List.map_replicate]
      exact Dt.keepT k12 _ (by rw [← List.map_replicate]; exact tup_ints _) dd
end
end Rc

namespace Rc
open PySem PySem.Spec PyProof.Rows L2
theorem book_same {K : PySem.W.Frag} {C : Addr} {H H' : Hp} {b : Addr} {M : Bk} (h : BookAt K C H b M) (s : Same H H') : BookAt K C H' b M := h.keep fun b o e _ => s b o e
theorem NoF.mk' {m : Str} (h : ((m == "names") || (m == "gifts") || (m == "stacks") || (m == "drops")) = false) : NoF m := by
  simp only [Bool.or_eq_false_iff] at h
  exact ⟨h.1.1.1, h.1.1.2, h.1.2, h.2⟩
section
variable {P : Program} {w : World} {K : PySem.W.Frag} {mg : Str → Option Value} {base : Heap}
/-! ### with_these -/
abbrev sWith : Stmt := inBook 1
theorem scWith : FnScope ["self", "gifts", "stacks", "drops", "other"] ["self", "gifts", "stacks", "drops"] (defScope sWith) := ⟨rfl, rfl, rfl, by decide +kernel, rfl, by decide +kernel, by decide +kernel⟩
def spWith (K : PySem.W.Frag) (C : Addr) : Sp := fun vs H Q _ => ∃ b M vg vs' vd gs ss ds, vs = [.ref b, vg, vs', vd] ∧ BookAt K C H b M ∧ NamesOk M.names ∧ Dt K H vg (.tuple (List.map PyData.int gs)) ∧ Dt K H vs' (.tuple (List.map stackD ss)) ∧ Dt K H vd (.tuple (List.map PyData.int ds)) ∧
  ∀ b' H', Same H H' → H b' = none → BookAt K C H' b' ⟨M.names, gs, ss, ds⟩ → Q (.ref b') H'
theorem ok_with {f fi C : Addr} {fd fdi : FuncData} (F : Fun K "with_these" "Book.with_these" sWith f fd) (T : ClsF K C) (B3 : Blt3 mg) (M : Mk K C fi) (gC : mg "Book" = some (.ref C))
    (GI : FnOk P w K mg base CX0 3 fi fdi ["self", "persons"] (spInit K C)) (bI : Binds K fdi ["self", "persons"] []) : FnOk P w K mg base CX0 5 f fd ["self", "gifts", "stacks", "drops"] (spWith K C) := by
  refine F.ok scWith (fun vs H Q E h => ?_) (fun cdv A outer s H vs Q E hr h => ?_)
  · obtain ⟨_, _, _, _, _, _, _, _, rfl, _⟩ := h
    rfl
  · obtain ⟨b, Mb, vg, vs', vd, gs, ss, ds, rfl, hb, ok, hg, hs, hd, q⟩ := h
    refine ⟨_, pss_cons (ps_set (i := 4) scWith.nd rfl (.inl rfl) (pe_make M GI hr (by rfl) gC bI .nil pass0 (pa_cons (pe_callTy call_list_of (by rfl) B3.list (by decide +kernel) (pa_cons (pe_fld (pv 0) rfl) pa_nil)) pa_nil)))
      (pss_cons (ps_fld (pv 4) (pv 1) rfl) (pss_cons (ps_fld (pv 4) (pv 2) rfl) (pss_cons (ps_fld (pv 4) (pv 3) rfl) (pss_one (ps_ret (pv 4)))))), ?_⟩
    obtain ⟨dx, tn, on, wg, ws, wd, e, h1, hn, h2, h3, h4⟩ := hb.ex
    refine ⟨.ref b, rfl, b, C, dx, _, _, rfl, e, T.cl, T.n1, bf_names, tn, _, rfl, .inr (.inl (.inr ⟨on, h1⟩)), fun l nl => ?_⟩
    intro x dy nx ndy nxy
    have s1 := same_upd (o := .lst (Mb.names.map V.str)) nl
    generalize hH1 : upd H l (.lst (Mb.names.map V.str)) = H1 at s1 nx ndy
    have hl : H1 l = some (.lst (Mb.names.map V.str)) := by
      rw [← hH1, upd_same]
    have nlx : l ≠ x := ne_of_none hl nx
    have nld : l ≠ dy := ne_of_none hl ndy
    have s2 : Same H1 (upd (upd H1 dy (.own x)) x (.ins C dy [])) := fun c o e => by
      rw [upd_ne (ne_of_none e nx), upd_ne (ne_of_none e ndy)]
      exact e
    refine ⟨x, dy, l, Mb.names, rfl, upd_same, s2 _ _ hl, ok, fun H2 b2 bk => ⟨rfl, ?_⟩⟩
    have nxH : H x = none := s1.free nx
    have s02 : Same H H2 := fun c o e => b2 c o (ne_of_none e nxH) (s2 c o (s1 c o e))
    obtain ⟨dx2, tn2, on2, ug, us, ud, e2, k1, kn, k2, k3, k4⟩ := bk.ex
    -- other.gifts = gifts; other.stacks = stacks; other.drops = drops
    refine ⟨vg, rfl, .ref x, rfl, x, C, dx2, _, rfl, e2, T.cl, T.n2, bf_len _ _ _ _, ?_⟩
    rw [putG]
    refine ⟨vs', rfl, .ref x, rfl, x, C, dx2, _, rfl, upd_same, T.cl, T.n3, bf_len _ _ _ _, ?_⟩
    rw [putS]
    refine ⟨vd, rfl, .ref x, rfl, x, C, dx2, _, rfl, upd_same, T.cl, T.n4, bf_len _ _ _ _, ?_⟩
    rw [putD, upd_upd, upd_upd]
    have kt : KT H2 (upd H2 x (.ins C dx2 (bf (.ref tn2) vg vs' vd))) := kt_upd e2 fun z => z
    have s03 : Same H (upd H2 x (.ins C dx2 (bf (.ref tn2) vg vs' vd))) := fun c o e => by
      rw [upd_ne (ne_of_none e nxH)]
      exact s02 c o e
    exact ⟨.ref x, rfl, q x _ s03 nxH ⟨dx2, tn2, on2, vg, vs', vd, upd_same, kt _ _ k1 trivial, kn, Dt.same s03 _ hg, Dt.same s03 _ hs, Dt.same s03 _ hd⟩⟩
/-! ### has, place_of, persons -/
abbrev sHas : Stmt := inBook 4
theorem scHas : FnScope ["self", "who"] ["self", "who"] (defScope sHas) := ⟨rfl, rfl, rfl, by decide +kernel, rfl, by decide +kernel, by decide +kernel⟩
def hasD (M : Bk) : PyData → Bool
  | .str z => decide (z ∈ M.names)
  | _ => false
def spHas (K : PySem.W.Frag) (C : Addr) : Sp := fun vs H Q _ => ∃ b M v d, vs = [.ref b, v] ∧ BookAt K C H b M ∧ NamesOk M.names ∧ Dt K H v d ∧ ShortD d ∧ ∀ H', Same H H' → Q (.bl (hasD M d)) H'
theorem ok_has {f fN C : Addr} {fd fdN : FuncData} (F : Fun K "has" "Book.has" sHas f fd) (T : ClsF K C) (N : Has P w K mg base 1 "is_name" ["thing"] (spBool K nameD) fN fdN) :
    FnOk P w K mg base CX0 2 f fd ["self", "who"] (spHas K C) := by
  refine F.ok scHas (fun vs H Q E h => ?_) (fun cdv A outer s H vs Q E hr h => ?_)
  · obtain ⟨_, _, _, _, rfl, _⟩ := h
    rfl
  · obtain ⟨b, M, v, d, rfl, hb, ok, hd, sd, q⟩ := h
    refine ⟨_, pss_one (ps_ret (pe_and (pe_call N.ok hr (by rfl) N.g N.kp N.b .nil pass0 (pa_cons (pv 1) pa_nil)) (pe_one (pe_cmpR op_in_seq (pv 1) (pe_fld (pv 0) rfl) (by rfl))))), ?_⟩
    refine ⟨v, rfl, v, d, rfl, hd, sd, fun H1 s1 => ⟨_, rfl, ?_⟩⟩
    obtain ⟨dx, tn, on, wg, ws, wd, e, h1, hn, h2, h3, h4⟩ := (book_same hb s1).ex
    have q1 := q H1 s1
    cases hd with
    | str z =>
      by_cases hm : z ∈ M.names
      · have en : nameD (.str z) = true := ok.nm z hm
        rw [en]
        refine iteT ⟨.str z, rfl, .ref b, rfl, b, C, dx, _, _, rfl, e, T.cl, T.n1, bf_names, tn, _, rfl, .inr (.inl (.inr ⟨on, h1⟩)), rfl, flat_strs _, ?_⟩
        show Q (.bl (inV (.str z) (M.names.map V.str))) H1
        rw [inV_strs]
        exact q1
      · have eh : hasD M (.str z) = false := decide_eq_false hm
        rw [eh] at q1
        cases en : nameD (.str z) with
        | false => exact iteF q1
        | true =>
          refine iteT ⟨.str z, rfl, .ref b, rfl, b, C, dx, _, _, rfl, e, T.cl, T.n1, bf_names, tn, _, rfl, .inr (.inl (.inr ⟨on, h1⟩)), rfl, flat_strs _, ?_⟩
          show Q (.bl (inV (.str z) (M.names.map V.str))) H1
          rw [inV_strs, decide_eq_false hm]
          exact q1
    | _ => exact iteF q1
abbrev sPlace : Stmt := inBook 2
theorem scPlace : FnScope ["self", "who"] ["self", "who"] (defScope sPlace) := ⟨rfl, rfl, rfl, by decide +kernel, rfl, by decide +kernel, by decide +kernel⟩
/-- the j-th person is called z -/
def spPlace (K : PySem.W.Frag) (C : Addr) : Sp := fun vs H Q _ => ∃ (b : Addr) (M : Bk) (z : Str) (j : Nat), vs = [.ref b, .str z] ∧ BookAt K C H b M ∧ NamesOk M.names ∧ M.names[j]? = some z ∧ ∀ H', Same H H' → Q (.int (j : Nat)) H'
theorem name_at {zs : List Str} (ok : NamesOk zs) {j : Nat} {z : Str} (e : zs[j]? = some z) : z ∈ zs ∧ (∀ m, m < j → zs[m]? ≠ some z) ∧ z.length ≤ 1000 := by
  have hm := List.mem_of_getElem? e
  refine ⟨hm, fun m hm' e' => ?_, by have := (nameT_len (ok.nm z hm)).2; omega⟩
  obtain ⟨h1, e1⟩ := List.getElem?_eq_some_iff.mp e
  obtain ⟨h2, e2⟩ := List.getElem?_eq_some_iff.mp e'
  have := (List.getElem_inj ok.nd).mp (e1.trans e2.symm)
  omega
theorem ok_place {f fh C : Addr} {fd fdh : FuncData} (F : Fun K "place_of" "Book.place_of" sPlace f fd) (T : ClsF K C) (HS : HasM P w K mg base C 2 "has" ["self", "who"] (spHas K C) fh fdh) :
    FnOk P w K mg base CX0 3 f fd ["self", "who"] (spPlace K C) := by
  refine F.ok scPlace (fun vs H Q E h => ?_) (fun cdv A outer s H vs Q E hr h => ?_)
  · obtain ⟨_, _, _, _, rfl, _⟩ := h
    rfl
  · obtain ⟨b, M, z, j, rfl, hb, ok, ej, q⟩ := h
    obtain ⟨hm, hf, hz⟩ := name_at ok ej
    refine ⟨_, pss_cons (ps_if (pt_not (pt_val (pe_meth (pv 0) T.cl HS.m HS.ok hr HS.b .nil pass0 (pa_cons (pv 1) pa_nil)))) pss_never pss_nil)
      (pss_one (ps_ret (pe_bmF PySem.F.slot_tuple_index PySem.F.type_tuple_index mt_tup_index (pe_fld (pv 0) rfl) (pa_cons (pv 1) pa_nil)))), ?_⟩
    obtain ⟨dx, tn, on, wg, ws, wd, e, h1, hn, h2, h3, h4⟩ := hb.ex
    refine ⟨.ref b, rfl, b, dx, _, rfl, e, bf_no (NoF.mk' (by decide +kernel)), .str z, rfl, b, M, .str z, .str z, rfl, hb, ok, .str z, (fun y ey => by cases ey; exact hz), fun H1 s1 => ⟨_, rfl, ?_⟩⟩
    have eh : hasD M (.str z) = true := decide_eq_true hm
    rw [eh]
    refine iteF ⟨.ref b, rfl, b, C, dx, _, _, rfl, s1 _ _ e, T.cl, T.n1, bf_names, tn, on, _, rfl, s1 _ _ h1, hn, .str z, rfl, tn, M.names, z, j, rfl, rfl, .inl (.inr ⟨on, s1 _ _ h1⟩), ej, hf, q H1 s1⟩
abbrev sPersons : Stmt := inBook 3
theorem scPersons : FnScope ["self"] ["self"] (defScope sPersons) := ⟨rfl, rfl, rfl, by decide +kernel, rfl, by decide +kernel, by decide +kernel⟩
def spPersons (K : PySem.W.Frag) (C : Addr) : Sp := fun vs H Q _ => ∃ b M, vs = [.ref b] ∧ BookAt K C H b M ∧ ∀ l, H l = none → Q (.ref l) (upd H l (.lst (M.names.map V.str)))
theorem ok_persons {f C : Addr} {fd : FuncData} (F : Fun K "persons" "Book.persons" sPersons f fd) (T : ClsF K C) (B3 : Blt3 mg) : FnOk P w K mg base CX0 1 f fd ["self"] (spPersons K C) := by
  refine F.ok scPersons (fun vs H Q E h => ?_) (fun cdv A outer s H vs Q E hr h => ?_)
  · obtain ⟨_, _, rfl, _⟩ := h
    rfl
  · obtain ⟨b, M, rfl, hb, q⟩ := h
    refine ⟨_, pss_one (ps_ret (pe_callTy call_list_of (by rfl) B3.list (by decide +kernel) (pa_cons (pe_fld (pv 0) rfl) pa_nil))), ?_⟩
    obtain ⟨dx, tn, on, wg, ws, wd, e, h1, hn, h2, h3, h4⟩ := hb.ex
    exact ⟨.ref b, rfl, b, C, dx, _, _, rfl, e, T.cl, T.n1, bf_names, tn, _, rfl, .inr (.inl (.inr ⟨on, h1⟩)), q⟩
/-! ### given, fallen, notes, pile -/
abbrev sGiven : Stmt := inBook 5
abbrev sFallen : Stmt := inBook 6
abbrev sNotes : Stmt := inBook 7
abbrev sPile : Stmt := inBook 8
theorem scGiven : FnScope ["self", "who"] ["self", "who"] (defScope sGiven) := ⟨rfl, rfl, rfl, by decide +kernel, rfl, by decide +kernel, by decide +kernel⟩
theorem scFallen : FnScope ["self", "who"] ["self", "who"] (defScope sFallen) := ⟨rfl, rfl, rfl, by decide +kernel, rfl, by decide +kernel, by decide +kernel⟩
theorem scNotes : FnScope ["self", "who"] ["self", "who"] (defScope sNotes) := ⟨rfl, rfl, rfl, by decide +kernel, rfl, by decide +kernel, by decide +kernel⟩
theorem scPile : FnScope ["self", "who", "gone", "left"] ["self", "who"] (defScope sPile) := ⟨rfl, rfl, rfl, by decide +kernel, rfl, by decide +kernel, by decide +kernel⟩
/-- a number of the j-th person -/
def spNum (K : PySem.W.Frag) (C : Addr) (g : Bk → List Int) : Sp := fun vs H Q _ => ∃ (b : Addr) (M : Bk) (z : Str) (j : Nat) (n : Int), vs = [.ref b, .str z] ∧ BookAt K C H b M ∧ NamesOk M.names ∧ M.names[j]? = some z ∧ (g M)[j]? = some n ∧ ∀ H', Same H H' → Q (.int n) H'
/-- a new list of notes of the j-th person -/
def spRow (K : PySem.W.Frag) (C : Addr) (g : List (Str × Int) → Int → List (Str × Int)) : Sp := fun vs H Q _ => ∃ (b : Addr) (M : Bk) (z : Str) (j : Nat) (l : List (Str × Int)) (n : Int), vs = [.ref b, .str z] ∧ BookAt K C H b M ∧ NamesOk M.names ∧ M.names[j]? = some z ∧
  M.stacks[j]? = some l ∧ M.drops[j]? = some n ∧ l.length ≤ 100 ∧ ∀ r xs H', Same H H' → H r = none → H' r = some (.lst xs) → DtAll K H' xs (notesD (g l n)) → Q (.ref r) H'
theorem map_get {α β : Type} {f : α → β} {l : List α} {j : Nat} {x : α} (h : l[j]? = some x) : (l.map f)[j]? = some (f x) := by
  rw [List.getElem?_map, h]
  rfl
theorem ok_given {f fp C : Addr} {fd fdp : FuncData} (F : Fun K "given" "Book.given" sGiven f fd) (T : ClsF K C) (PL : HasM P w K mg base C 3 "place_of" ["self", "who"] (spPlace K C) fp fdp) :
    FnOk P w K mg base CX0 4 f fd ["self", "who"] (spNum K C Bk.gifts) := by
  refine F.ok scGiven (fun vs H Q E h => ?_) (fun cdv A outer s H vs Q E hr h => ?_)
  · obtain ⟨_, _, _, _, _, rfl, _⟩ := h
    rfl
  · obtain ⟨b, M, z, j, n, rfl, hb, ok, ej, en, q⟩ := h
    refine ⟨_, pss_one (ps_ret (pe_ix ix_tupD (pe_fld (pv 0) rfl) (pe_meth (pv 0) T.cl PL.m PL.ok hr PL.b .nil pass0 (pa_cons (pv 1) pa_nil)) (fun _ _ => rfl))), ?_⟩
    obtain ⟨dx, tn, on, wg, ws, wd, e, h1, hn, h2, h3, h4⟩ := hb.ex
    refine ⟨.ref b, rfl, b, C, dx, _, _, rfl, e, T.cl, T.n2, bf_gifts, .ref b, rfl, b, dx, _, rfl, e, bf_no (NoF.mk' (by decide +kernel)), .str z, rfl, b, M, z, j, rfl, hb, ok, ej, fun H1 s1 => ?_⟩
    exact ⟨_, j, .int n, Dt.same s1 _ h2, rfl, map_get en, fun v dv => by cases dv; exact q H1 s1⟩
theorem ok_fallen {f fp C : Addr} {fd fdp : FuncData} (F : Fun K "fallen" "Book.fallen" sFallen f fd) (T : ClsF K C) (PL : HasM P w K mg base C 3 "place_of" ["self", "who"] (spPlace K C) fp fdp) :
    FnOk P w K mg base CX0 4 f fd ["self", "who"] (spNum K C Bk.drops) := by
  refine F.ok scFallen (fun vs H Q E h => ?_) (fun cdv A outer s H vs Q E hr h => ?_)
  · obtain ⟨_, _, _, _, _, rfl, _⟩ := h
    rfl
  · obtain ⟨b, M, z, j, n, rfl, hb, ok, ej, en, q⟩ := h
    refine ⟨_, pss_one (ps_ret (pe_ix ix_tupD (pe_fld (pv 0) rfl) (pe_meth (pv 0) T.cl PL.m PL.ok hr PL.b .nil pass0 (pa_cons (pv 1) pa_nil)) (fun _ _ => rfl))), ?_⟩
    obtain ⟨dx, tn, on, wg, ws, wd, e, h1, hn, h2, h3, h4⟩ := hb.ex
    refine ⟨.ref b, rfl, b, C, dx, _, _, rfl, e, T.cl, T.n4, bf_drops, .ref b, rfl, b, dx, _, rfl, e, bf_no (NoF.mk' (by decide +kernel)), .str z, rfl, b, M, z, j, rfl, hb, ok, ej, fun H1 s1 => ?_⟩
    exact ⟨_, j, .int n, Dt.same s1 _ h4, rfl, map_get en, fun v dv => by cases dv; exact q H1 s1⟩
theorem ok_notes {f fp C : Addr} {fd fdp : FuncData} (F : Fun K "notes" "Book.notes" sNotes f fd) (T : ClsF K C) (B3 : Blt3 mg) (PL : HasM P w K mg base C 3 "place_of" ["self", "who"] (spPlace K C) fp fdp) :
    FnOk P w K mg base CX0 4 f fd ["self", "who"] (spRow K C fun l _ => l) := by
  refine F.ok scNotes (fun vs H Q E h => ?_) (fun cdv A outer s H vs Q E hr h => ?_)
  · obtain ⟨_, _, _, _, _, _, rfl, _⟩ := h
    rfl
  · obtain ⟨b, M, z, j, l, n, rfl, hb, ok, ej, el, en, hl, q⟩ := h
    refine ⟨_, pss_one (ps_ret (pe_callTy call_listD (by rfl) B3.list (by decide +kernel) (pa_cons (pe_ix ix_tupD (pe_fld (pv 0) rfl) (pe_meth (pv 0) T.cl PL.m PL.ok hr PL.b .nil pass0 (pa_cons (pv 1) pa_nil)) (fun _ _ => rfl)) pa_nil))), ?_⟩
    obtain ⟨dx, tn, on, wg, ws, wd, e, h1, hn, h2, h3, h4⟩ := hb.ex
    refine ⟨.ref b, rfl, b, C, dx, _, _, rfl, e, T.cl, T.n3, bf_stacks, .ref b, rfl, b, dx, _, rfl, e, bf_no (NoF.mk' (by decide +kernel)), .str z, rfl, b, M, z, j, rfl, hb, ok, ej, fun H1 s1 => ?_⟩
    refine ⟨_, j, stackD l, Dt.same s1 _ h3, rfl, map_get el, fun v dv => ⟨v, _, rfl, .inl dv, fun r xs nr dx => ?_⟩⟩
    exact q r xs _ (s1.trans (same_upd nr)) (s1.free nr) upd_same (DtAll.same (same_upd nr) _ dx)
theorem ok_pile {f fs fn ff C : Addr} {fd fds fdn fdf : FuncData} (F : Fun K "pile" "Book.pile" sPile f fd) (T : ClsF K C) (SP : Has P w K mg base 1 "split_notes" ["notes", "fallen"] (spSplit K) fs fds)
    (NT : HasM P w K mg base C 4 "notes" ["self", "who"] (spRow K C fun l _ => l) fn fdn) (FL : HasM P w K mg base C 4 "fallen" ["self", "who"] (spNum K C Bk.drops) ff fdf) :
    FnOk P w K mg base CX0 5 f fd ["self", "who"] (spRow K C leftN) := by
  refine F.ok scPile (fun vs H Q E h => ?_) (fun cdv A outer s H vs Q E hr h => ?_)
  · obtain ⟨_, _, _, _, _, _, rfl, _⟩ := h
    rfl
  · obtain ⟨b, M, z, j, l, n, rfl, hb, ok, ej, el, en, hl, q⟩ := h
    refine ⟨_, pss_cons (ps_asg (pe_call SP.ok (hr.mono (by decide)) (by rfl) SP.g SP.kp SP.b .nil pass0 (pa_cons (pe_meth (pv 0) T.cl NT.m NT.ok hr NT.b .nil pass0 (pa_cons (pv 1) pa_nil))
        (pa_cons (pe_meth (pv 0) T.cl FL.m FL.ok hr FL.b .nil pass0 (pa_cons (pv 1) pa_nil)) pa_nil)))
        (pg_tup rfl (pgs_cons (pg_name (i := 2) scPile.nd rfl (.inl rfl)) (pgs_cons (pg_name (i := 3) scPile.nd rfl (.inl rfl)) pgs_nil))))
      (pss_one (ps_ret (pv 3))), ?_⟩
    obtain ⟨dx, tn, on, wg, ws, wd, e, h1, hn, h2, h3, h4⟩ := hb.ex
    refine ⟨.ref b, rfl, b, dx, _, rfl, e, bf_no (NoF.mk' (by decide +kernel)), .str z, rfl, b, M, z, j, l, n, rfl, hb, ok, ej, el, en, hl, fun r xs H1 s1 nr hr' dr => ?_⟩
    refine ⟨.ref b, rfl, b, dx, _, rfl, s1 _ _ e, bf_no (NoF.mk' (by decide +kernel)), .str z, rfl, b, M, z, j, n, rfl, book_same hb s1, ok, ej, en, fun H2 s2 => ?_⟩
    refine ⟨r, xs, true, l, n, rfl, .inl (.inl (s2 _ _ hr')), DtAll.same s2 _ dr, hl, fun t g m gx mx H3 s3 ht ng nm gm hg hm dg dm => ?_⟩
    refine ⟨t, _, rfl, .inl (.inl ht), rfl, _, _, rfl, _, _, rfl, rfl, .ref m, rfl, ?_⟩
    exact q m mx H3 (s1.trans (s2.trans s3)) ((s1.trans s2).free nm) hm dm
end
end Rc

namespace Rc
open PySem PySem.Spec PyProof.Rows L2 RZ
theorem walk_zipT {K : PySem.W.Frag} {a b : Addr} {xs ys : List V} {n : Nat} (hn : n = min xs.length ys.length) : Walk (ItzT K a b) n (fun H => SqT K H a xs ∧ SqT K H b ys) (YPair (fun i => xs[i]?) (fun i => ys[i]?)) := by
  subst hn
  refine ⟨fun i _ hi q => ?_, fun _ q => ⟨xs, ys, q.1, q.2, by omega⟩, fun i H v H' _ q y => ?_⟩
  · have h1 : i < xs.length := by omega
    have h2 : i < ys.length := by omega
    exact ⟨xs, ys, xs[i], ys[i], q.1, q.2, by simp [h1], by simp [h2]⟩
  · obtain ⟨T, x, z, g1, g2, g3, g4, g5⟩ := y
    exact ⟨T, x, z, g1, g2, g3, g4 xs q.1, g5 ys q.2⟩
def sumTo (z : Str) (l : List (Str × Int)) : Int := ((l.filter fun n => decide (n.1 = z)).map (·.2)).sum
def fallTo (M : Bk) (z : Str) : Int := ((M.stacks.zip M.drops).map fun p => sumTo z (goneN p.1 p.2)).sum
theorem len_le_sum : ∀ {l : List (List (Str × Int))} {x : List (Str × Int)}, x ∈ l → x.length ≤ (l.map List.length).sum
  | [], _, h => by cases h
  | y :: r, x, h => by
    rw [List.map_cons, List.sum_cons]
    rcases List.mem_cons.mp h with e | e
    · rw [e]
      exact Nat.le_add_right _ _
    · have := len_le_sum e
      omega
theorem Bk.Ok.row {M : Bk} (h : M.Ok) {l : List (Str × Int)} (hm : l ∈ M.stacks) : l.length ≤ 60 := Nat.le_trans (len_le_sum hm) h.many
theorem Bk.Ok.at_ {M : Bk} (h : M.Ok) {j : Nat} {z : Str} (e : M.names[j]? = some z) : ∃ g l d, M.gifts[j]? = some g ∧ M.stacks[j]? = some l ∧ M.drops[j]? = some d ∧ l.length ≤ 60 := by
  have hj : j < M.names.length := (List.getElem?_eq_some_iff.mp e).1
  have h1 : j < M.gifts.length := by rw [h.lg]; exact hj
  have h2 : j < M.stacks.length := by rw [h.ls]; exact hj
  have h3 : j < M.drops.length := by rw [h.ld]; exact hj
  exact ⟨_, _, _, List.getElem?_eq_getElem h1, List.getElem?_eq_getElem h2, List.getElem?_eq_getElem h3, h.row (List.getElem_mem h2)⟩
section
variable {P : Program} {w : World} {K : PySem.W.Frag} {mg : Str → Option Value} {base : Heap}
/-! ### fallen_to -/
abbrev sFallTo : Stmt := inBook 10
abbrev nFallTo : List Str := ["self", "who", "name", "total", "stack", "drop", "gone", "left", "to", "part"]
theorem scFallTo : FnScope nFallTo ["self", "who"] (defScope sFallTo) := ⟨rfl, rfl, rfl, by decide +kernel, rfl, by decide +kernel, by decide +kernel⟩
def spCalc (K : PySem.W.Frag) (C : Addr) (g : Bk → Nat → Str → Int) : Sp := fun vs H Q _ => ∃ (b : Addr) (M : Bk) (z : Str) (j : Nat), vs = [.ref b, .str z] ∧ BookAt K C H b M ∧ M.Ok ∧ M.names[j]? = some z ∧ ∀ H', Same H H' → Q (.int (g M j z)) H'
theorem ok_fallTo {f fp fs C : Addr} {fd fdp fds : FuncData} (F : Fun K "fallen_to" "Book.fallen_to" sFallTo f fd) (T : ClsF K C) (B3 : Blt3 mg) (PL : HasM P w K mg base C 3 "place_of" ["self", "who"] (spPlace K C) fp fdp)
    (SP : Has P w K mg base 1 "split_notes" ["notes", "fallen"] (spSplit K) fs fds) : FnOk P w K mg base CX0 4 f fd ["self", "who"] (spCalc K C fun M _ z => fallTo M z) := by
  refine F.ok scFallTo (fun vs H Q E h => ?_) (fun cdv A outer s H vs Q E hr h => ?_)
  · obtain ⟨_, _, _, _, rfl, _⟩ := h
    rfl
  · obtain ⟨b, M, z, j, rfl, hb, ok, ej, q⟩ := h
    refine ⟨_, pss_cons (ps_set (i := 2) scFallTo.nd rfl (.inr rfl) (pe_ix ix_tup (pe_fld (pv 0) rfl) (pe_meth (pv 0) T.cl PL.m PL.ok hr PL.b .nil pass0 (pa_cons (pv 1) pa_nil)) (fun _ _ => rfl)))
      (pss_cons (ps_set (i := 3) scFallTo.nd rfl (.inl rfl) pe_int)
      (pss_cons (ps_for PassesOwn.never rfl (pi_zipA (by rfl) B3.zip (pa_cons (pe_fld (pv 0) rfl) (pa_cons (pe_fld (pv 0) rfl) pa_nil))) (pg_tup rfl (pgs_cons (pg_name (i := 4) scFallTo.nd rfl (.inl rfl)) (pgs_cons (pg_name (i := 5) scFallTo.nd rfl (.inl rfl)) pgs_nil)))
        (pss_cons (ps_asg (pe_call SP.ok (hr.mono (by decide)) (by rfl) SP.g SP.kp SP.b .nil pass0 (pa_cons (pv 4) (pa_cons (pv 5) pa_nil))) (pg_tup rfl (pgs_cons (pg_name (i := 6) scFallTo.nd rfl (.inl rfl)) (pgs_cons (pg_name (i := 7) scFallTo.nd rfl (.inl rfl)) pgs_nil))))
        (pss_one (ps_aug (i := 3) scFallTo.nd rfl (.inl rfl) (pe_callB (cr_sum rfl) (by rfl) B3.sum (by decide +kernel) (pa_cons
          (pe_lc (own := [("to", 8), ("part", 9)]) (g := gTup K 2 (gCons (gName 8) (gCons (gName 9) gNil))) rfl scFallTo.nd (pi_list (pv 6)) (blkOk_by (N := nFallTo) (sc := defScope sFallTo) (own := [("to", 8), ("part", 9)]) (by decide +kernel))
            (fun _ _ _ _ _ => pg_tup rfl (pgs_cons (pg_name (i := 8) scFallTo.nd rfl (.inl rfl) (hf := .inr rfl)) (pgs_cons (pg_name (i := 9) scFallTo.nd rfl (.inl rfl) (hf := .inr rfl)) pgs_nil)))
            (fun _ _ _ _ _ => pts_one (pt_cmpR op_eq (pv 8) (pv 2) (nomark _))) (fun _ _ _ _ _ => pv 9)) pa_nil)) ip_add))))
      (pss_one (ps_ret (pv 3))))), ?_⟩
    obtain ⟨dx, tn, on, wg, ws, wd, e, h1, hn, h2, h3, h4⟩ := hb.ex
    refine ⟨.ref b, rfl, b, C, dx, _, _, rfl, e, T.cl, T.n1, bf_names, .ref b, rfl, b, dx, _, rfl, e, bf_no (NoF.mk' (by decide +kernel)), .str z, rfl, b, M, z, j, rfl, hb, ok.names, ej, fun H1 s1 => ?_⟩
    refine ⟨tn, _, _, .str z, rfl, rfl, .inl (.inr ⟨on, s1 _ _ h1⟩), atI_nat (map_get ej), ?_⟩
    have h3' := Dt.same s1 _ h3
    have h4' := Dt.same s1 _ h4
    obtain ⟨ta, xs, rfl, qa, da⟩ := h3'.tup_inv
    obtain ⟨tb, ys, rfl, qb, db⟩ := h4'.tup_inv
    have ey := db.ints_eq
    subst ey
    refine ⟨.ref b, rfl, b, C, dx, _, _, rfl, s1 _ _ e, T.cl, T.n3, bf_stacks, .ref b, rfl, b, C, dx, _, _, rfl, s1 _ _ e, T.cl, T.n4, bf_drops, ta, tb, xs, _, rfl, .inr ⟨qa, qb, ?_⟩⟩
    have lx : xs.length = M.names.length := by
      rw [da.len, List.length_map, ok.ls]
    have ly : (M.drops.map V.int).length = M.names.length := by
      rw [List.length_map, ok.ld]
    refine for_it (walk_zipT (xs := xs) (ys := M.drops.map V.int) (n := M.names.length) (by rw [lx, ly, Nat.min_self])) (fun i σ H' => ∃ y4 y5 y6 y7 y8 y9, σ = [some (.ref b), some (.str z), some (.str z), some (.int (((M.stacks.zip M.drops).take i).map fun p => sumTo z (goneN p.1 p.2)).sum), y4, y5, y6, y7, y8, y9] ∧ Same H1 H')
      ⟨_, _, _, _, _, _, rfl, Same.refl _⟩ (fun i σ H' _ hP => ?_) (fun i x σ H2' H2 hi hP hY => ?_) (fun σ H' hP => ?_)
    · obtain ⟨_, _, _, _, _, _, _, s2⟩ := hP
      exact ⟨same_seqT s2 qa, same_seqT s2 qb⟩
    · obtain ⟨y4, y5, y6, y7, y8, y9, rfl, s2⟩ := hP
      obtain ⟨Tt, x1, x2, rfl, nT, rfl, e1, e2⟩ := hY
      have e1' : xs[i]? = some x1 := e1
      have e2' : (M.drops.map V.int)[i]? = some x2 := e2
      have hs : i < M.stacks.length := by rw [ok.ls]; exact hi
      have hdr : i < M.drops.length := by rw [ok.ld]; exact hi
      rw [List.getElem?_map, List.getElem?_eq_getElem hdr] at e2'
      have ex2 : x2 = .int M.drops[i] := (Option.some.inj e2').symm
      subst ex2
      obtain ⟨v1, g1, d1⟩ := da.get (n := i) (d := stackD M.stacks[i]) (map_get (List.getElem?_eq_getElem hs))
      rw [e1'] at g1
      cases g1
      have s3 := s2.trans (same_upd (o := .tup [x1, V.int M.drops[i]]) nT)
      obtain ⟨sa, sx, rfl, sq, sd⟩ := (Dt.same s3 _ d1).tup_inv
      refine ⟨Tt, _, rfl, .inl (.inl upd_same), rfl, _, _, rfl, _, _, rfl, rfl, ?_⟩
      refine ⟨.ref sa, rfl, _, rfl, sa, sx, false, M.stacks[i], M.drops[i], rfl, sq, sd, by have := ok.row (List.getElem_mem hs); omega, fun t g m gx mx H4 s4 ht ng nm gm hg hm dg dm => ?_⟩
      refine ⟨t, _, rfl, .inl (.inl ht), rfl, _, _, rfl, _, _, rfl, rfl, ?_⟩
      refine ⟨_, rfl, .ref g, rfl, g, rfl, ⟨_, .inl (.inl hg)⟩, fun D nD => ?_⟩
      generalize hG : goneN M.stacks[i] M.drops[i] = G at dg
      have lg : gx.length = G.length := by
        rw [dg.len]
        unfold notesD
        rw [List.length_map]
      have lG : G.length ≤ 60 := by
        rw [← hG]
        exact Nat.le_trans (goneN_len _ _) (ok.row (List.getElem_mem hs))
      refine lc_it (walk_list (xs := gx)) (fun i' H' => Same H4 H' ∧ H' D = some (.lst (((G.take i').filter fun n => decide (n.1 = z)).map fun n => .int n.2))) ⟨same_upd nD, upd_same⟩ (fun i' H' _ hP => hP.1.seq (.inl (.inl hg)))
        (fun i' x' H5' H5 hi' hP hY => ?_) (fun H5 hP => ?_)
      · obtain ⟨rfl, hx⟩ := hY
        obtain ⟨hil, dn⟩ := (DtAll.same hP.1 _ dg).notes_get hx
        obtain ⟨na, rfl, qn⟩ := note_inv dn
        refine ⟨na, _, rfl, qn, rfl, _, _, rfl, _, _, rfl, rfl, rfl, _, rfl, _, rfl, rfl, _, rfl, ?_⟩
        have tk : G.take (i' + 1) = G.take i' ++ [G[i']] := by
          rw [List.take_add_one, List.getElem?_eq_getElem hil]
          rfl
        by_cases hz : G[i'].1 = z
        · rw [show decide (V.str G[i'].1 = V.str z) = true from decide_eq_true (by rw [hz])]
          refine iteT ⟨_, rfl, _, hP.2, ?_, fun c o ec => ?_, ?_⟩
          · rw [List.length_map]
            have := List.length_filter_le (fun n : Str × Int => decide (n.1 = z)) (G.take i')
            rw [List.length_take] at this
            exact small1000 (by omega)
          · rw [upd_ne (ne_of_none ec nD)]
            exact hP.1 c o ec
          · rw [upd_same, tk, List.filter_append, List.map_append]
            simp [hz]
        · rw [show decide (V.str G[i'].1 = V.str z) = false from decide_eq_false (fun c => hz (V.str.inj c))]
          refine iteF ⟨hP.1, ?_⟩
          rw [hP.2, tk, List.filter_append]
          simp [hz]
      · refine ⟨D, (G.filter fun n => decide (n.1 = z)).map (·.2), rfl, .inl (.inl ?_), _, _, rfl, rfl, ?_⟩
        · rw [hP.2, lg, List.take_length, List.map_map]
          rfl
        refine ⟨some (.ref sa), some (.int M.drops[i]), some (.ref g), some (.ref m), y8, y9, ?_, s3.trans (s4.trans hP.1)⟩
        have tk : (M.stacks.zip M.drops).take (i + 1) = (M.stacks.zip M.drops).take i ++ [(M.stacks[i], M.drops[i])] := by
          rw [List.take_add_one, List.getElem?_zip_eq_some (z := (M.stacks[i], M.drops[i])) |>.mpr ⟨List.getElem?_eq_getElem hs, List.getElem?_eq_getElem hdr⟩]
          rfl
        rw [tk, List.map_append, List.sum_append]
        simp only [List.map_cons, List.map_nil, List.sum_cons, List.sum_nil, Int.add_zero]
        rw [hG]
        rfl
    · obtain ⟨y4, y5, y6, y7, y8, y9, rfl, s2⟩ := hP
      refine ⟨_, rfl, ?_⟩
      rw [List.take_of_length_le (by rw [List.length_zip, ok.ls, ok.ld, Nat.min_self]; exact Nat.le_refl _)]
      exact q _ (s1.trans s2)
end
end Rc

namespace Rc
open PySem PySem.Spec PyProof.Rows L2 RZ
def cashM (M : Bk) (j : Nat) (z : Str) : Int := M.gifts.getD j 0 + fallTo M z - M.drops.getD j 0
def putM (M : Bk) (j : Nat) (y : Str) (n : Int) : Bk := { M with stacks := M.stacks.set j (M.stacks.getD j [] ++ [(y, n)]) }
def giveM (M : Bk) (j : Nat) (n : Int) : Bk := { M with gifts := M.gifts.set j (M.gifts.getD j 0 + n) }
theorem getD_of {α : Type} {l : List α} {j : Nat} {x d : α} (h : l[j]? = some x) : l.getD j d = x := by
  rw [List.getD_eq_getElem?_getD, h]
  rfl
def rLenS (K : PySem.W.Frag) : List V → Hp → VK → Prop := fun xs H Q => ∃ p ys, xs = [V.ref p] ∧ (SqL K H p ys ∨ SqT K H p ys) ∧ Q (V.int ys.length) H
theorem call_lenS {X : Cx} {K : PySem.W.Frag} (e : X.K = K) : CallR X (.builtin "len") (rLenS K) := by
  subst e
  exact call_len_seq
def manyM (M : Bk) : Nat := (M.stacks.map List.length).sum
section
variable {P : Program} {w : World} {K : PySem.W.Frag} {mg : Str → Option Value} {base : Heap}
/-! ### cash -/
abbrev sCash : Stmt := inBook 11
theorem scCash : FnScope ["self", "who"] ["self", "who"] (defScope sCash) := ⟨rfl, rfl, rfl, by decide +kernel, rfl, by decide +kernel, by decide +kernel⟩
theorem ok_cash {f f1 f2 f3 C : Addr} {fd fd1 fd2 fd3 : FuncData} (F : Fun K "cash" "Book.cash" sCash f fd) (T : ClsF K C) (GV : HasM P w K mg base C 4 "given" ["self", "who"] (spNum K C Bk.gifts) f1 fd1)
    (FT : HasM P w K mg base C 4 "fallen_to" ["self", "who"] (spCalc K C fun M _ z => fallTo M z) f2 fd2) (FL : HasM P w K mg base C 4 "fallen" ["self", "who"] (spNum K C Bk.drops) f3 fd3) :
    FnOk P w K mg base CX0 5 f fd ["self", "who"] (spCalc K C cashM) := by
  refine F.ok scCash (fun vs H Q E h => ?_) (fun cdv A outer s H vs Q E hr h => ?_)
  · obtain ⟨_, _, _, _, rfl, _⟩ := h
    rfl
  · obtain ⟨b, M, z, j, rfl, hb, ok, ej, q⟩ := h
    refine ⟨_, pss_one (ps_ret (pe_op op_sub (pe_op op_add (pe_meth (pv 0) T.cl GV.m GV.ok hr GV.b .nil pass0 (pa_cons (pv 1) pa_nil)) (pe_meth (pv 0) T.cl FT.m FT.ok hr FT.b .nil pass0 (pa_cons (pv 1) pa_nil))) (pe_meth (pv 0) T.cl FL.m FL.ok hr FL.b .nil pass0 (pa_cons (pv 1) pa_nil)))), ?_⟩
    obtain ⟨g, l, d, eg, el, ed, _⟩ := ok.at_ ej
    obtain ⟨dx, tn, on, wg, ws, wd, e, h1, hn, h2, h3, h4⟩ := hb.ex
    refine ⟨.ref b, rfl, b, dx, _, rfl, e, bf_no (NoF.mk' (by decide +kernel)), .str z, rfl, b, M, z, j, g, rfl, hb, ok.names, ej, eg, fun H1 s1 => ?_⟩
    refine ⟨.ref b, rfl, b, dx, _, rfl, s1 _ _ e, bf_no (NoF.mk' (by decide +kernel)), .str z, rfl, b, M, z, j, rfl, book_same hb s1, ok, ej, fun H2 s2 => ⟨_, _, rfl, rfl, ?_⟩⟩
    have s12 := s1.trans s2
    refine ⟨.ref b, rfl, b, dx, _, rfl, s12 _ _ e, bf_no (NoF.mk' (by decide +kernel)), .str z, rfl, b, M, z, j, d, rfl, book_same hb s12, ok.names, ej, ed, fun H3 s3 => ⟨_, _, rfl, rfl, ?_⟩⟩
    have ec : cashM M j z = g + fallTo M z - d := by
      unfold cashM
      rw [getD_of eg, getD_of ed]
    have qq := q _ (s12.trans s3)
    rw [ec] at qq
    exact qq
/-! ### put, give -/
abbrev sPut : Stmt := inBook 12
abbrev nPut : List Str := ["self", "who", "to", "amount", "place", "name", "stack"]
theorem scPut : FnScope nPut ["self", "who", "to", "amount"] (defScope sPut) := ⟨rfl, rfl, rfl, by decide +kernel, rfl, by decide +kernel, by decide +kernel⟩
def spPut (K : PySem.W.Frag) (C : Addr) : Sp := fun vs H Q _ => ∃ (b : Addr) (M : Bk) (z y : Str) (j k : Nat) (n : Int), vs = [.ref b, .str z, .str y, .int n] ∧ BookAt K C H b M ∧ M.Ok ∧ M.names[j]? = some z ∧ M.names[k]? = some y ∧ 1 ≤ n ∧ manyM M < 60 ∧
  ∀ b' H', Same H H' → H b' = none → BookAt K C H' b' (putM M j y n) → Q (.ref b') H'
theorem map_set {α β : Type} (f : α → β) (l : List α) (j : Nat) (x : α) : (l.map f).set j (f x) = (l.set j x).map f := by
  rw [List.map_set]
theorem ok_put {f f1 f2 f3 f4 C : Addr} {fd fd1 fd2 fd3 fd4 : FuncData} (F : Fun K "put" "Book.put" sPut f fd) (T : ClsF K C) (B : Blt mg) (B3 : Blt3 mg) (gM : ∃ t, mg "MOST" = some (.int 60 t))
    (PL : HasM P w K mg base C 3 "place_of" ["self", "who"] (spPlace K C) f1 fd1) (CA : Has P w K mg base 3 "check_amount" ["amount"] (spCheckA K) f2 fd2) (CH : Has P w K mg base 1 "with_changed" ["row", "place", "thing"] (spChg K) f3 fd3)
    (WT : HasM P w K mg base C 5 "with_these" ["self", "gifts", "stacks", "drops"] (spWith K C) f4 fd4) : FnOk P w K mg base CX0 6 f fd ["self", "who", "to", "amount"] (spPut K C) := by
  obtain ⟨tM, gM⟩ := gM
  refine F.ok scPut (fun vs H Q E h => ?_) (fun cdv A outer s H vs Q E hr h => ?_)
  · obtain ⟨_, _, _, _, _, _, _, rfl, _⟩ := h
    rfl
  · obtain ⟨b, M, z, y, j, k, n, rfl, hb, ok, ej, ek, n1, mm, q⟩ := h
    have hr3 := hr.mono (show 3 ≤ 5 by decide)
    have hr1 := hr.mono (show 1 ≤ 5 by decide)
    refine ⟨_, pss_cons (ps_set (i := 4) scPut.nd rfl (.inl rfl) (pe_meth (pv 0) T.cl PL.m PL.ok hr3 PL.b .nil pass0 (pa_cons (pv 1) pa_nil)))
      (pss_cons (ps_set (i := 5) scPut.nd rfl (.inl rfl) (pe_ix ix_tup (pe_fld (pv 0) rfl) (pe_meth (pv 0) T.cl PL.m PL.ok hr3 PL.b .nil pass0 (pa_cons (pv 2) pa_nil)) (fun _ _ => rfl)))
      (pss_cons (ps_expr (pe_call CA.ok hr3 (by rfl) CA.g CA.kp CA.b .nil pass0 (pa_cons (pv 3) pa_nil)))
      (pss_cons (ps_if (pt_cmpR op_ge (pe_callB (cr_sum rfl) (by rfl) B3.sum (by decide +kernel) (pa_cons
          (pe_lc (own := [("stack", 6)]) (g := gName 6) (tt := tYes) rfl scPut.nd (pi_tup (pe_fld (pv 0) rfl)) (blkOk_by (N := nPut) (sc := defScope sPut) (own := [("stack", 6)]) (by decide +kernel))
            (fun _ _ _ _ _ => pg_name (i := 6) scPut.nd rfl (.inl rfl) (hf := .inr rfl)) (fun _ _ _ _ _ => pts_nil)
            (fun _ _ _ _ _ => pe_callB (call_lenS (K := K) rfl) (by rfl) B.len PySem.boot_len (pa_cons (pv 6) pa_nil))) pa_nil)) (pe_glob (v := .int 60) (by rfl) gM ⟨_, rfl⟩) (nomark _)) pss_never pss_nil)
      (pss_cons (ps_set (i := 6) scPut.nd rfl (.inl rfl) (pe_op op_catD (pe_ix ix_tupD (pe_fld (pv 0) rfl) (pv 4) (fun _ _ => rfl)) (pe_tup (pa_cons (pe_tup (pa_cons (pv 5) (pa_cons (pv 3) pa_nil))) pa_nil))))
      (pss_one (ps_ret (pe_meth (pv 0) T.cl WT.m WT.ok hr WT.b .nil pass0 (pa_cons (pe_fld (pv 0) rfl) (pa_cons (pe_call CH.ok hr1 (by rfl) CH.g CH.kp CH.b .nil pass0 (pa_cons (pe_fld (pv 0) rfl) (pa_cons (pv 4) (pa_cons (pv 6) pa_nil))))
        (pa_cons (pe_fld (pv 0) rfl) pa_nil)))))))))), ?_⟩
    obtain ⟨g, l, d, eg, el, ed, ll⟩ := ok.at_ ej
    obtain ⟨dx, tn, on, wg, ws, wd, e, h1, hn, h2, h3, h4⟩ := hb.ex
    refine ⟨.ref b, rfl, b, dx, _, rfl, e, bf_no (NoF.mk' (by decide +kernel)), .str z, rfl, b, M, z, j, rfl, hb, ok.names, ej, fun H1 s1 => ?_⟩
    refine ⟨.ref b, rfl, b, C, dx, _, _, rfl, s1 _ _ e, T.cl, T.n1, bf_names, .ref b, rfl, b, dx, _, rfl, s1 _ _ e, bf_no (NoF.mk' (by decide +kernel)), .str y, rfl, b, M, y, k, rfl, book_same hb s1, ok.names, ek, fun H2 s2 => ?_⟩
    have s12 := s1.trans s2
    refine ⟨tn, _, _, .str y, rfl, rfl, .inl (.inr ⟨on, s12 _ _ h1⟩), atI_nat (map_get ek), ?_⟩
    refine ⟨.int n, rfl, n, rfl, n1, fun H3 s3 => ?_⟩
    have s13 := s12.trans s3
    obtain ⟨ta, xs, ews, qa, da⟩ := (Dt.same s13 _ h3).tup_inv
    subst ews
    refine ⟨.ref b, rfl, b, C, dx, _, _, rfl, s13 _ _ e, T.cl, T.n3, bf_stacks, ta, rfl, ⟨_, qa⟩, fun D nD => ?_⟩
    refine lc_it (walk_tup (xs := xs)) (fun i H' => Same H3 H' ∧ H' D = some (.lst ((M.stacks.take i).map fun l => .int (l.length : Nat)))) ⟨same_upd nD, upd_same⟩ (fun i H' _ hP => same_seqT hP.1 qa)
      (fun i x H4' H4 hi hP hY => ?_) (fun H4 hP => ?_)
    · obtain ⟨rfl, hx⟩ := hY
      have hs : i < M.stacks.length := by
        have := da.len
        rw [List.length_map] at this
        omega
      obtain ⟨v1, g1, d1⟩ := da.get (n := i) (d := stackD M.stacks[i]) (map_get (List.getElem?_eq_getElem hs))
      rw [hx] at g1
      cases g1
      obtain ⟨sa, sx, rfl, sq, sd⟩ := (Dt.same hP.1 _ d1).tup_inv
      have lsx : sx.length = M.stacks[i].length := by
        rw [sd.len]
        unfold notesD
        rw [List.length_map]
      refine ⟨rfl, .ref sa, rfl, sa, sx, rfl, .inr sq, _, hP.2, ?_, fun c o ec => ?_, ?_⟩
      · rw [List.length_map, List.length_take]
        have := ok.n1
        have := ok.ls
        exact small1000 (by omega)
      · rw [upd_ne (ne_of_none ec nD)]
        exact hP.1 c o ec
      · rw [upd_same, List.take_add_one, List.getElem?_eq_getElem hs, List.map_append, lsx]
        rfl
    · have lx : xs.length = M.stacks.length := by
        rw [da.len, List.length_map]
      refine ⟨D, M.stacks.map fun l => ((l.length : Nat) : Int), rfl, .inl (.inl ?_), _, _, rfl, rfl, _, rfl, ?_⟩
      · rw [hP.2, lx, List.take_length, List.map_map]
        rfl
      have esum : (M.stacks.map fun l => ((l.length : Nat) : Int)).sum = ((manyM M : Nat) : Int) := by
        unfold manyM
        generalize M.stacks = S
        induction S with
        | nil => rfl
        | cons a r ih =>
          rw [List.map_cons, List.sum_cons, ih, List.map_cons, List.sum_cons]
          omega
      rw [esum, show decide ((60 : Int) ≤ ((manyM M : Nat) : Int)) = false from decide_eq_false (by omega)]
      have s14 := s13.trans hP.1
      refine iteF ?_
      refine ⟨.ref b, rfl, b, C, dx, _, _, rfl, s14 _ _ e, T.cl, T.n3, bf_stacks, .int (j : Nat), rfl, _, j, stackD l, Dt.same s14 _ h3, rfl, map_get el, fun v dv => ?_⟩
      refine ⟨.str y, rfl, .int n, rfl, by show 2 ≤ sizeLine; decide, fun t1 nt1 => ⟨by show 1 ≤ sizeLine; decide, fun t2 nt2 => ?_⟩⟩
      have s5 := (same_upd (o := .tup [V.str y, V.int n]) nt1).trans (same_upd (o := .tup [V.ref t1]) nt2)
      refine ⟨notesD l, [noteD (y, n)], Dt.same s5 _ dv, .tup (.inl (.inl upd_same)) (.cons (.tup (.inl (.inl (same_upd nt2 _ _ upd_same))) (.cons (.str y) (.cons (.int n) .nil))) .nil), ?_, fun v6 H6 s6 d6 => ?_⟩
      · unfold notesD
        rw [List.length_map, List.length_singleton]
        omega
      have s16 := s14.trans (s5.trans s6)
      have en : notesD l ++ [noteD (y, n)] = notesD (l ++ [(y, n)]) := by
        unfold notesD
        rw [List.map_append]
        rfl
      rw [en] at d6
      -- self.with_these(self.gifts, with_changed(self.stacks, place, stack), self.drops)
      refine ⟨.ref b, rfl, b, dx, _, rfl, s16 _ _ e, bf_no (NoF.mk' (by decide +kernel)), .ref b, rfl, b, C, dx, _, _, rfl, s16 _ _ e, T.cl, T.n2, bf_gifts, .ref b, rfl, b, C, dx, _, _, rfl, s16 _ _ e, T.cl, T.n3, bf_stacks,
        .int (j : Nat), rfl, v6, rfl, _, _, j, v6, stackD (l ++ [(y, n)]), rfl, Dt.same s16 _ h3, d6, ?_, ?_, fun v7 H7 s7 d7 => ?_⟩
      · rw [List.length_map]
        exact (List.getElem?_eq_some_iff.mp el).1
      · rw [List.length_map, ok.ls]
        have := ok.n1
        omega
      have s17 := s16.trans s7
      rw [map_set] at d7
      refine ⟨.ref b, rfl, b, C, dx, _, _, rfl, s17 _ _ e, T.cl, T.n4, bf_drops, b, M, _, _, _, M.gifts, _, M.drops, rfl, book_same hb s17, ok.names, Dt.same s17 _ h2, d7, Dt.same s17 _ h4, fun b' H8 s8 nb hb' => ?_⟩
      refine q b' H8 (s17.trans s8) (s17.free nb) ?_
      have ep : putM M j y n = ⟨M.names, M.gifts, M.stacks.set j (l ++ [(y, n)]), M.drops⟩ := by
        unfold putM
        rw [getD_of el]
      rw [ep]
      exact hb'
abbrev sGive : Stmt := inBook 13
theorem scGive : FnScope ["self", "who", "amount", "place", "gift"] ["self", "who", "amount"] (defScope sGive) := ⟨rfl, rfl, rfl, by decide +kernel, rfl, by decide +kernel, by decide +kernel⟩
def spGive (K : PySem.W.Frag) (C : Addr) : Sp := fun vs H Q _ => ∃ (b : Addr) (M : Bk) (z : Str) (j : Nat) (n : Int), vs = [.ref b, .str z, .int n] ∧ BookAt K C H b M ∧ M.Ok ∧ M.names[j]? = some z ∧ 1 ≤ n ∧
  ∀ b' H', Same H H' → H b' = none → BookAt K C H' b' (giveM M j n) → Q (.ref b') H'
theorem ok_give {f f1 f2 f3 f4 C : Addr} {fd fd1 fd2 fd3 fd4 : FuncData} (F : Fun K "give" "Book.give" sGive f fd) (T : ClsF K C)
    (PL : HasM P w K mg base C 3 "place_of" ["self", "who"] (spPlace K C) f1 fd1) (CA : Has P w K mg base 3 "check_amount" ["amount"] (spCheckA K) f2 fd2) (CH : Has P w K mg base 1 "with_changed" ["row", "place", "thing"] (spChg K) f3 fd3)
    (WT : HasM P w K mg base C 5 "with_these" ["self", "gifts", "stacks", "drops"] (spWith K C) f4 fd4) : FnOk P w K mg base CX0 6 f fd ["self", "who", "amount"] (spGive K C) := by
  refine F.ok scGive (fun vs H Q E h => ?_) (fun cdv A outer s H vs Q E hr h => ?_)
  · obtain ⟨_, _, _, _, _, rfl, _⟩ := h
    rfl
  · obtain ⟨b, M, z, j, n, rfl, hb, ok, ej, n1, q⟩ := h
    have hr3 := hr.mono (show 3 ≤ 5 by decide)
    have hr1 := hr.mono (show 1 ≤ 5 by decide)
    refine ⟨_, pss_cons (ps_set (i := 3) scGive.nd rfl (.inl rfl) (pe_meth (pv 0) T.cl PL.m PL.ok hr3 PL.b .nil pass0 (pa_cons (pv 1) pa_nil)))
      (pss_cons (ps_expr (pe_call CA.ok hr3 (by rfl) CA.g CA.kp CA.b .nil pass0 (pa_cons (pv 2) pa_nil)))
      (pss_cons (ps_set (i := 4) scGive.nd rfl (.inl rfl) (pe_op op_add (pe_ix ix_tupD (pe_fld (pv 0) rfl) (pv 3) (fun _ _ => rfl)) (pv 2)))
      (pss_one (ps_ret (pe_meth (pv 0) T.cl WT.m WT.ok hr WT.b .nil pass0 (pa_cons (pe_call CH.ok hr1 (by rfl) CH.g CH.kp CH.b .nil pass0 (pa_cons (pe_fld (pv 0) rfl) (pa_cons (pv 3) (pa_cons (pv 4) pa_nil))))
        (pa_cons (pe_fld (pv 0) rfl) (pa_cons (pe_fld (pv 0) rfl) pa_nil)))))))), ?_⟩
    obtain ⟨g, l, d, eg, el, ed, ll⟩ := ok.at_ ej
    obtain ⟨dx, tn, on, wg, ws, wd, e, h1, hn, h2, h3, h4⟩ := hb.ex
    refine ⟨.ref b, rfl, b, dx, _, rfl, e, bf_no (NoF.mk' (by decide +kernel)), .str z, rfl, b, M, z, j, rfl, hb, ok.names, ej, fun H1 s1 => ?_⟩
    refine ⟨.int n, rfl, n, rfl, n1, fun H3 s3 => ?_⟩
    have s13 := s1.trans s3
    refine ⟨.ref b, rfl, b, C, dx, _, _, rfl, s13 _ _ e, T.cl, T.n2, bf_gifts, .int (j : Nat), rfl, _, j, .int g, Dt.same s13 _ h2, rfl, map_get eg, fun v dv => ?_⟩
    cases dv
    refine ⟨.int n, rfl, g, n, rfl, rfl, ?_⟩
    refine ⟨.ref b, rfl, b, dx, _, rfl, s13 _ _ e, bf_no (NoF.mk' (by decide +kernel)), .ref b, rfl, b, C, dx, _, _, rfl, s13 _ _ e, T.cl, T.n2, bf_gifts,
      .int (j : Nat), rfl, .int (g + n), rfl, _, _, j, _, .int (g + n), rfl, Dt.same s13 _ h2, .int _, ?_, ?_, fun v7 H7 s7 d7 => ?_⟩
    · rw [List.length_map]
      exact (List.getElem?_eq_some_iff.mp eg).1
    · rw [List.length_map, ok.lg]
      have := ok.n1
      omega
    have s17 := s13.trans s7
    rw [map_set] at d7
    refine ⟨.ref b, rfl, b, C, dx, _, _, rfl, s17 _ _ e, T.cl, T.n3, bf_stacks, .ref b, rfl, b, C, dx, _, _, rfl, s17 _ _ e, T.cl, T.n4, bf_drops, b, M, _, _, _, _, M.stacks, M.drops, rfl, book_same hb s17, ok.names, d7, Dt.same s17 _ h3, Dt.same s17 _ h4, fun b' H8 s8 nb hb' => ?_⟩
    refine q b' H8 (s17.trans s8) (s17.free nb) ?_
    have ep : giveM M j n = ⟨M.names, M.gifts.set j (g + n), M.stacks, M.drops⟩ := by
      unfold giveM
      rw [getD_of eg]
    rw [ep]
    exact hb'
/-! ### key -/
abbrev sKey : Stmt := inBook 16
theorem scKey : FnScope ["self"] ["self"] (defScope sKey) := ⟨rfl, rfl, rfl, by decide +kernel, rfl, by decide +kernel, by decide +kernel⟩
def keyD (M : Bk) : PyData := .tuple [.tuple (M.names.map .str), .tuple (M.gifts.map .int), .tuple (M.stacks.map stackD), .tuple (M.drops.map .int)]
def spKey (K : PySem.W.Frag) (C : Addr) : Sp := fun vs H Q _ => ∃ b M, vs = [.ref b] ∧ BookAt K C H b M ∧ ∀ v H', Same H H' → Dt K H' v (keyD M) → Q v H'
theorem ok_key {f C : Addr} {fd : FuncData} (F : Fun K "key" "Book.key" sKey f fd) (T : ClsF K C) : FnOk P w K mg base CX0 1 f fd ["self"] (spKey K C) := by
  refine F.ok scKey (fun vs H Q E h => ?_) (fun cdv A outer s H vs Q E hr h => ?_)
  · obtain ⟨_, _, rfl, _⟩ := h
    rfl
  · obtain ⟨b, M, rfl, hb, q⟩ := h
    refine ⟨_, pss_one (ps_ret (pe_tup (pa_cons (pe_fld (pv 0) rfl) (pa_cons (pe_fld (pv 0) rfl) (pa_cons (pe_fld (pv 0) rfl) (pa_cons (pe_fld (pv 0) rfl) pa_nil)))))), ?_⟩
    obtain ⟨dx, tn, on, wg, ws, wd, e, h1, hn, h2, h3, h4⟩ := hb.ex
    refine ⟨.ref b, rfl, b, C, dx, _, _, rfl, e, T.cl, T.n1, bf_names, .ref b, rfl, b, C, dx, _, _, rfl, e, T.cl, T.n2, bf_gifts, .ref b, rfl, b, C, dx, _, _, rfl, e, T.cl, T.n3, bf_stacks, .ref b, rfl, b, C, dx, _, _, rfl, e, T.cl, T.n4, bf_drops, by show 4 ≤ sizeLine; decide, fun t nt => ?_⟩
    have st := same_upd (o := .tup [V.ref tn, wg, ws, wd]) nt
    exact q _ _ st (.tup (.inl (.inl upd_same)) (.cons (.tup (.inl (.inr ⟨on, st _ _ h1⟩)) (DtAll.strs _)) (.cons (Dt.same st _ h2) (.cons (Dt.same st _ h3) (.cons (Dt.same st _ h4) .nil)))))
end
end Rc

namespace Rc
open PySem PySem.Spec PyProof.Rows L2 RZ
theorem out_it {J : It} {n : Nat} {G : Hp → Prop} {Y : Nat → Hp → V → Hp → Prop} (w : Walk J n G Y) {Body : V → Hp → (Hp → Prop) → Prop} {H0 : Hp} {Qd : Hp → Prop} (Pv : Nat → Hp → Prop) (h0 : Pv 0 H0) (hG : ∀ i H, i ≤ n → Pv i H → G H)
    (hs : ∀ i x H H', i < n → Pv i H → Y i H x H' → Body x H' (Pv (i + 1))) (hd : ∀ H, Pv n H → Qd H) :
    ∃ W : Nat → Nat → Hp → Prop, (∃ m, W 0 m H0) ∧ ∀ i m H, W i m H → (J.stop i H ∧ Qd H) ∨ (J.go i H ∧ ∃ Nx : Hp → Prop, (∀ H', Nx H' → ∃ m', m' < m ∧ W (i + 1) m' H') ∧ ∀ x H', J.yld i H x H' → Body x H' Nx) := by
  refine ⟨fun i m H => m = n - i ∧ i ≤ n ∧ Pv i H, ⟨n, by simp, Nat.zero_le _, h0⟩, ?_⟩
  rintro i m H ⟨rfl, hi, p⟩
  have g := hG i H hi p
  by_cases hlt : i < n
  · exact .inr ⟨w.goes i H hlt g, Pv (i + 1), fun H' p' => ⟨n - (i + 1), by omega, rfl, hlt, p'⟩, fun x H' y => hs i x H H' hlt p (w.yields i H x H' hlt g y)⟩
  · obtain rfl : i = n := by omega
    exact .inl ⟨w.stops H g, hd H p⟩
def leftM (M : Bk) (i : Nat) : List (Str × Int) := ((M.stacks.zip M.drops).take i).flatMap fun p => leftN p.1 p.2
theorem leftM_succ {M : Bk} {i : Nat} {l : List (Str × Int)} {d : Int} (h1 : M.stacks[i]? = some l) (h2 : M.drops[i]? = some d) : leftM M (i + 1) = leftM M i ++ leftN l d := by
  unfold leftM
  rw [List.take_add_one, List.getElem?_zip_eq_some (z := (l, d)) |>.mpr ⟨h1, h2⟩, List.flatMap_append]
  simp
theorem leftM_len (M : Bk) (ok : M.Ok) : ∀ i, (leftM M i).length ≤ ((M.stacks.take i).map List.length).sum
  | 0 => by simp [leftM]
  | i + 1 => by
    have ih := leftM_len M ok i
    by_cases h : i < M.stacks.length
    · have h2 : i < M.drops.length := by
        rw [ok.ld, ← ok.ls]
        exact h
      rw [leftM_succ (List.getElem?_eq_getElem h) (List.getElem?_eq_getElem h2), List.take_add_one, List.getElem?_eq_getElem h, List.map_append, List.sum_append, List.length_append]
      have := leftN_len M.stacks[i] M.drops[i]
      simp only [Option.toList_some, List.map_cons, List.map_nil, List.sum_cons, List.sum_nil]
      omega
    · have e1 : (M.stacks.zip M.drops).take (i + 1) = (M.stacks.zip M.drops).take i := by
        rw [List.take_of_length_le (by rw [List.length_zip]; omega), List.take_of_length_le (by rw [List.length_zip]; omega)]
      have e2 : M.stacks.take (i + 1) = M.stacks.take i := by
        rw [List.take_of_length_le (by omega), List.take_of_length_le (by omega)]
      unfold leftM at ih ⊢
      rw [e1, e2]
      exact ih
theorem sum_take_le : ∀ (l : List (List (Str × Int))) (i : Nat), ((l.take i).map List.length).sum ≤ (l.map List.length).sum
  | [], _ => by simp
  | _ :: _, 0 => by simp
  | a :: r, i + 1 => by
    have := sum_take_le r i
    simp only [List.take_succ_cons, List.map_cons, List.sum_cons]
    omega
section
variable {P : Program} {w : World} {K : PySem.W.Frag} {mg : Str → Option Value} {base : Heap}
abbrev sLefts : Stmt := inBook 17
abbrev nLefts : List Str := ["self", "who", "note"]
theorem scLefts : FnScope nLefts ["self"] (defScope sLefts) := ⟨rfl, rfl, rfl, by decide +kernel, rfl, by decide +kernel, by decide +kernel⟩
def spLefts (K : PySem.W.Frag) (C : Addr) : Sp := fun vs H Q _ => ∃ b M, vs = [.ref b] ∧ BookAt K C H b M ∧ M.Ok ∧ ∀ r xs H', Same H H' → H r = none → H' r = some (.lst xs) → xs.length = (leftM M M.names.length).length → Q (.ref r) H'
theorem ok_lefts {f fp C : Addr} {fd fdp : FuncData} (F : Fun K "notes_left" "Book.notes_left" sLefts f fd) (T : ClsF K C) (PI' : HasM P w K mg base C 5 "pile" ["self", "who"] (spRow K C leftN) fp fdp) :
    FnOk P w K mg base CX0 6 f fd ["self"] (spLefts K C) := by
  refine F.ok scLefts (fun vs H Q E h => ?_) (fun cdv A outer s H vs Q E hr h => ?_)
  · obtain ⟨_, _, rfl, _⟩ := h
    rfl
  · obtain ⟨b, M, rfl, hb, ok, q⟩ := h
    refine ⟨_, pss_one (ps_ret (pe_lc2 (own := [("who", 1), ("note", 2)]) (vs1 := [2]) (g := gName 1) (g1 := gName 2) (tt := tYes) (tt1 := tYes) (te := tVar 2) (wi1 := iList K (tMeth C "pile" (spRow K C leftN) [] E0 (tVar 0) (tCons (tVar 1) tNil))) rfl scLefts.nd (pi_tup (pe_fld (pv 0) rfl))
      (blkOk_by (N := nLefts) (sc := defScope sLefts) (own := [("who", 1), ("note", 2)]) (by decide +kernel)) (by decide) (fun _ _ _ _ _ => pg_name (i := 1) scLefts.nd rfl (.inl rfl) (hf := .inr rfl)) (fun _ _ _ _ _ => pts_nil)
      (fun _ _ _ _ _ => pi_list (pe_meth (pv 0) T.cl PI'.m PI'.ok hr PI'.b .nil pass0 (pa_cons (pv 1) pa_nil))) (fun _ _ _ _ _ => pg_name (i := 2) scLefts.nd rfl (.inl rfl) (hf := .inr rfl)) (fun _ _ _ _ _ => pts_nil) (fun _ _ _ _ _ => pv 2))), ?_⟩
    obtain ⟨dx, tn, on, wg, ws, wd, e, h1, hn, h2, h3, h4⟩ := hb.ex
    have qn : SqT K H tn (M.names.map V.str) := .inl (.inr ⟨on, h1⟩)
    refine ⟨.ref b, rfl, b, C, dx, _, _, rfl, e, T.cl, T.n1, bf_names, tn, rfl, ⟨_, qn⟩, fun D nD => ?_⟩
    have bound : ∀ i, (leftM M i).length ≤ 60 := fun i => Nat.le_trans (leftM_len M ok i) (Nat.le_trans (sum_take_le _ _) ok.many)
    refine out_it (walk_tup (K := K) (a := tn) (xs := M.names.map V.str)) (fun i H' => Same H H' ∧ ∃ acc, H' D = some (.lst acc) ∧ acc.length = (leftM M i).length) ⟨same_upd nD, [], upd_same, rfl⟩ (fun i H' _ hP => same_seqT hP.1 qn)
      (fun i x H1' H1 hi hP hY => ?_) (fun H1 hP => ?_)
    · obtain ⟨rfl, hx⟩ := hY
      rw [List.length_map] at hi
      obtain ⟨s1, acc, hD, ha⟩ := hP
      have ex : x = .str M.names[i] := by
        rw [List.getElem?_map, List.getElem?_eq_getElem hi] at hx
        exact (Option.some.inj hx).symm
      subst ex
      obtain ⟨g, l, d, eg, el, ed, ll⟩ := ok.at_ (List.getElem?_eq_getElem hi)
      refine ⟨rfl, ?_⟩
      refine ⟨.ref b, rfl, b, dx, _, rfl, s1 _ _ e, bf_no (NoF.mk' (by decide +kernel)), _, rfl, b, M, _, i, l, d, rfl, book_same hb s1, ok.names, List.getElem?_eq_getElem hi, el, ed, by omega, fun r xs H2 s2 nr hr2 dr => ?_⟩
      have lx : xs.length = (leftN l d).length := by
        rw [dr.len]
        unfold notesD
        rw [List.length_map]
      have rD : r ≠ D := (ne_of_none hD nr).symm
      refine ⟨r, rfl, ⟨_, .inl (.inl hr2)⟩, ?_⟩
      have es := leftM_succ el ed
      have b1 := bound (i + 1)
      rw [es, List.length_append] at b1
      refine out_it (walk_list (K := K) (a := r) (xs := xs)) (fun j H' => Same H H' ∧ H' r = some (.lst xs) ∧ ∃ acc', H' D = some (.lst acc') ∧ acc'.length = (leftM M i).length + j) ⟨s1.trans s2, hr2, acc, s2 _ _ hD, by omega⟩ (fun j H' _ hP => .inl (.inl hP.2.1))
        (fun j y H3' H3 hj hP hY => ?_) (fun H3 hP => ?_)
      · obtain ⟨rfl, hy⟩ := hY
        obtain ⟨s3, hr3, acc', hD3, ha3⟩ := hP
        refine ⟨rfl, y, rfl, acc', hD3, small1000 (by omega), fun c o ec => ?_, ?_, acc' ++ [y], upd_same, ?_⟩
        · rw [upd_ne (ne_of_none ec nD)]
          exact s3 c o ec
        · rw [upd_ne rD]
          exact hr3
        · rw [List.length_append, ha3]
          rfl
      · obtain ⟨s3, hr3, acc', hD3, ha3⟩ := hP
        exact ⟨s3, acc', hD3, by rw [es, List.length_append, ha3, lx]⟩
    · obtain ⟨s1, acc, hD, ha⟩ := hP
      rw [List.length_map] at ha
      exact q D acc H1 s1 nD hD ha
/-! ### len -/
abbrev sLenB : Stmt := inBook 19
theorem scLenB : FnScope ["self"] ["self"] (defScope sLenB) := ⟨rfl, rfl, rfl, by decide +kernel, rfl, by decide +kernel, by decide +kernel⟩
def lenM (M : Bk) : Nat := (leftM M M.names.length).length
def spLenB (K : PySem.W.Frag) (C : Addr) : Sp := fun vs H Q _ => ∃ b M, vs = [.ref b] ∧ BookAt K C H b M ∧ M.Ok ∧ ∀ H', Same H H' → Q (.int (lenM M : Nat)) H'
theorem ok_lenB {f fp C : Addr} {fd fdp : FuncData} (F : Fun K "__len__" "Book.__len__" sLenB f fd) (T : ClsF K C) (B : Blt mg) (LF : HasM P w K mg base C 6 "notes_left" ["self"] (spLefts K C) fp fdp) :
    FnOk P w K mg base CX0 7 f fd ["self"] (spLenB K C) := by
  refine F.ok scLenB (fun vs H Q E h => ?_) (fun cdv A outer s H vs Q E hr h => ?_)
  · obtain ⟨_, _, rfl, _⟩ := h
    rfl
  · obtain ⟨b, M, rfl, hb, ok, q⟩ := h
    refine ⟨_, pss_one (ps_ret (pe_callB call_len_seq (by rfl) B.len PySem.boot_len (pa_cons (pe_meth0 (pv 0) T.cl LF.m LF.ok hr LF.b .nil pass0) pa_nil))), ?_⟩
    obtain ⟨dx, tn, on, wg, ws, wd, e, h1, hn, h2, h3, h4⟩ := hb.ex
    refine ⟨.ref b, rfl, b, dx, _, rfl, e, bf_no (NoF.mk' (by decide +kernel)), b, M, rfl, hb, ok, fun r xs H' s' nr hr' hl => ?_⟩
    refine ⟨r, xs, rfl, .inl (.inl (.inl hr')), ?_⟩
    rw [hl]
    exact q H' s'
theorem lenM_le {M : Bk} (ok : M.Ok) : lenM M ≤ 60 := Nat.le_trans (leftM_len M ok _) (Nat.le_trans (sum_take_le _ _) ok.many)
/-- len(book) -/
def rLenB (K : PySem.W.Frag) (C : Addr) : List V → Hp → VK → Prop := fun xs H Q => ∃ b M, xs = [.ref b] ∧ BookAt K C H b M ∧ M.Ok ∧ ∀ H', Same H H' → Q (.int (lenM M : Nat)) H'
theorem call_lenB {X : Cx} {C f : Addr} {fd : FuncData} (G : FnOk X.prog X.w X.K X.mg X.base CX0 7 f fd ["self"] (spLenB X.K C)) (bd : Binds X.K fd ["self"] []) (hm : Meth X.K C "__len__" f) (hr : Room 8 X.A) : CallR X (.builtin "len") (rLenB X.K C) := by
  intro pins s σ H xs us Q I r h
  obtain ⟨b, M, rfl, hb, ok, q⟩ := h
  obtain ⟨u, rfl, ru⟩ := vals1 r
  cases ru
  obtain ⟨dx, tn, on, wg, ws, wd, e, h1, hn, h2, h3, h4⟩ := hb.ex
  obtain ⟨m, Fm⟩ := I.fr
  obtain ⟨mA, O, _⟩ := ins_get I.hok e
  obtain ⟨od, J, _⟩ := O.look
  refine PySem.W.len_K Fm I.ok.mod.kin J hm.at_ hm.fn ?_
  have e0 := I.env0
  refine wpAny_call (codeAny_mono (G.run X.A.in1 X.stack s H ⟨[.ref b], []⟩ [.ref b] [.ref b] (fun v H' => v = .int (lenM M : Nat) ∧ Q (.int (lenM M : Nat)) H') E0 hr.in1 e0.in1 (bd s [.ref b] I.kIn rfl) (.cons rfl .nil) ⟨b, M, rfl, hb, ok, fun H' s' => ⟨rfl, q H' s'⟩⟩) fun r s' hq => ?_)
  match r, hq with
  | .error e, hq => exact hq.elim
  | .ok .next, hq => exact hq.elim
  | .ok .brk, hq => exact hq.elim
  | .ok .cont, hq => exact hq.elim
  | .ok (.ret u), hq =>
    obtain ⟨v, H', I', rv, ev, q'⟩ := I.after hq
    subst ev
    obtain ⟨t, rfl⟩ := rv
    have := lenM_le ok
    exact ⟨⟨by omega, by omega⟩, ⟨.int _, H', I'.tok _, ⟨_, rfl⟩, q'⟩⟩
end
end Rc

set_option maxHeartbeats 2000000
namespace Rc
open PySem PySem.Spec PyProof.Rows L2 LamX
/-! ### a list walked while its key is asked -/
theorem walks_listR {prog : Program} {w : World} {A : Around} (hh : A.handled = none) (I ax : Addr) (hne : ax ≠ I) (xs : List V) :
    Walks prog w A I [I, ax] [I] xs.length (fun i v => ∃ x, xs[i]? = some x ∧ RelV x v) (fun i h => h.IsListIter I ax i ∧ ∃ items : Array Value, h.IsList ax items ∧ Vals xs items.toList) where
  sub := fun b hb => by simp at hb; simp [hb]
  frame := fun _ _ _ st hk => by
    obtain ⟨h1, items, h2, h3⟩ := st
    exact ⟨h1.at fun o e => hk I (by simp) o e, items, h2.at fun o e => hk ax (by simp) o e, h3⟩
  item := fun i s Q E hi st hQ => by
    obtain ⟨h1, items, h2, h3⟩ := st
    obtain ⟨u, hu, ru⟩ := h3.get (List.getElem?_eq_getElem hi)
    have hs : items[i]? = some u := by
      rw [← Array.getElem?_toList]
      exact hu
    refine wpAny_pyNext_list_item h1 h2 (x := u) hs fun h' hit' hs' => ?_
    exact hQ _ h' s.toks ⟨_, List.getElem?_eq_getElem hi, ru⟩ ⟨hit', items, h2.extBut hs'.extBut hne, h3⟩ fun b o hb e => hs'.extBut b o (fun h => hb (by simp [h])) e
  done := fun s Q E st hQ => by
    obtain ⟨h1, items, h2, h3⟩ := st
    have l : items.size = xs.length := by
      rw [← Array.length_toList]
      exact h3.length.symm
    exact wpAny_pyNext_list_end hh h1 h2 (by rw [← l]; simp) fun h' he' => hQ h' s.toks fun b o hb e => he' b o (fun h => hb (by simp [h])) e
  self := fun _ _ _ _ st hQ => wpAny_pyIter_listiter st.1 hQ
/-! ### a lambda with one parameter -/
structure LamS1 (sc scope : Scope) (x : Str) : Prop where
  kind : scope.kind = .function
  co : scope.isCoroutine = false
  gen : scope.isGenerator = false
  own : ∀ y ∈ scope.names, (y.2 = .local → y.1 = x) ∧ y.2 ≠ .cell
  loc : scope.names.lookup x = some .local
  free : ∀ y ∈ scope.names, y.2 = .free → sc.names.lookup y.1 = some .cell ∨ sc.names.lookup y.1 = some .free
theorem LamS1.has {X : Cx} {scope : Scope} {x : Str} (L : LamS1 X.env.scope scope x) (ok : X.Ok) : ∀ y ∈ scope.names, y.2 = .free → ∃ c, X.env.cells.lookup y.1 = some c := fun y hy e => by
  rcases L.free y hy e with k | k
  · exact ok.has _ (.inl k)
  · exact ok.has _ (.inr k)
section
variable {X : Cx} {pins : List (Addr × Obj)} {σ : L2.St} {H HZ : Hp} {s s1 : Shared}
theorem lam_start1 {A : Around} {outer : List Env} {E : XK} {scope : Scope} {f c' : Addr} {h₁ : Heap} {tk : Nat} {x : Str} {io : Nat} {v : V} {u : Value} (I : Inv X pins σ H s) (L : LamS1 X.env.scope scope x) (hN : X.N.Nodup) (hio : X.N[io]? = some x) (rv : RelV v u)
    (e0 : Env0 X.prog X.w X.K X.mg X.base A outer s1 HZ) (hd : A.handled = none)
    (un : Un (frs X.stack) [] H HZ s.heap s1.heap) (hns : h₁.Ns s1.heap.objs.size fun y => ([(x, u)] : List (Str × Value)).reverse.lookup y) (kp : ∀ b o, s1.heap.get? b = some o → h₁.get? b = some o) :
    Inv (lamCx X A outer s1 HZ E scope f c') [] (σ.set io (some v)) HZ { s1 with heap := h₁, toks := tk } := by
  have hfree := L.has I.ok
  have cm : ∀ {y c}, (cloFrom X.env.cells scope.names []).lookup y = some c → X.env.cells.lookup y = some c := fun {y c} e => by
    rcases cloFrom_mem (PySem.mem_of_lookup e) with hm | ⟨h1, h2⟩
    · cases hm
    · obtain ⟨c1, hc⟩ := hfree _ h1 rfl
      have hc : X.env.cells.lookup y = some c1 := hc
      have e2 : c = c1 := by
        rw [h2, hc] <;> rfl
      rw [e2]
      exact hc
  have look : ∀ {y}, scope.names.lookup y = some .free → ∃ c, (cloFrom X.env.cells scope.names []).lookup y = some c := fun {y} hl => by
    have hy : (y, NameKind.free) ∈ scope.names := PySem.mem_of_lookup hl
    exact mem_lookup (cloFrom_has (cells := X.env.cells) (acc := []) hy)
  have cellK : ∀ {c : Addr} {v : Option Value}, H c = none → s.heap.IsCell c v → h₁.IsCell c v := fun {c v} n ⟨o, ho, hd⟩ => by
    obtain ⟨sl, q⟩ := un.any ho n (by simp)
    exact ⟨_, kp _ _ q, hd⟩
  have noA : ∀ b : Addr, b ∉ (lamCx X A outer s1 HZ E scope f c').ex := fun b z => absurd (show b ∈ ([] : List Addr) from z) (by simp)
  refine ⟨⟨e0.mod, L.kind, rfl, rfl, Nat.le_refl _, fun y z c e1 e2 => I.ok.inj y z c (cm e1) (cm e2), fun y hy => ?_, fun y c z _ => ?_, fun _ => hd, Around.frames_deeper e0.frames, .inr ⟨rfl, rfl⟩, fun b z => absurd z (noA b), e0.bs, e0.bsz, fun b _ _ => noA b,
      fun b z => absurd z (noA b), e0.funs, e0.frf⟩,
    rfl, e0.bare, Un.kept kp, ⟨_, hns, fun i y v' e1 e2 e3 => ?_⟩, fun y c e => ?_, e0.hok.fresh (Nat.le_refl _), fun y c e => ?_, fun q hq => absurd (show q ∈ ([] : List (Addr × Obj)) ++ [] from hq) (by simp), e0.hok.kept kp, by rw [List.length_set]; exact I.len⟩
  · have hy : scope.names.lookup y = some .cell ∨ scope.names.lookup y = some .free := hy
    rcases hy with hy | hy
    · exact absurd rfl (L.own _ (PySem.mem_of_lookup hy)).2
    · exact look hy
  · have z : false = true := z
    cases z
  · have e1 : X.N[i]? = some y := e1
    have e3 : Vis scope y := e3
    rcases e3 with k | k | k
    · have hy : y = x := (L.own _ (PySem.mem_of_lookup k)).1 rfl
      subst hy
      have hi : i = io := nodup_ix hN e1 hio
      subst hi
      have hl : i < σ.length := by
        rw [I.len]
        exact (List.getElem?_eq_some_iff.mp e1).1
      rw [List.getElem?_set_self hl] at e2
      cases e2
      exact ⟨u, rv, .inl ⟨k, by simp [List.lookup]⟩⟩
    · exact absurd rfl (L.own _ (PySem.mem_of_lookup k)).2
    · obtain ⟨m, hn, hl⟩ := I.loc
      have hvis : Vis X.env.scope y := (L.free _ (PySem.mem_of_lookup k) rfl).elim (fun k => .inr (.inl k)) (fun k => .inr (.inr k))
      have hyx : y ≠ x := fun z => by
        rw [z, L.loc] at k
        cases k
      have hii : io ≠ i := fun z => by
        rw [← z, hio] at e1
        exact hyx (Option.some.inj e1).symm
      rw [List.getElem?_set_ne hii] at e2
      obtain ⟨w', r, q⟩ := hl i y v' e1 e2 hvis
      obtain ⟨c2, h2⟩ := look k
      refine ⟨w', r, .inr ⟨.inr k, c2, h2, ?_⟩⟩
      have c1 := cm h2
      rcases q with ⟨k', _⟩ | ⟨_, c3, e', z⟩
      · have k' : X.env.scope.names.lookup y = some .local := k'
        rcases L.free _ (PySem.mem_of_lookup k) rfl with k2 | k2 <;> rw [show X.env.scope.names.lookup y = _ from k2] at k' <;> cases k'
      · rw [c1] at e'
        cases e'
        exact cellK (I.freeC y _ c1) z
  · obtain ⟨w', z⟩ := I.cell y c (cm e)
    exact ⟨w', cellK (I.freeC y c (cm e)) z⟩
  · obtain ⟨v, o, ho, hd⟩ := I.cell y c (cm e)
    exact un.free c o ho (I.freeC y c (cm e)) (by simp)
/-- the lambda called with a value, from our own frame -/
theorem lam_call1 {A : Around} {f c' : Addr} {pm ctv : Value} {params : Arguments} {body : Expr} {scope : Scope} {k io : Nat} {x : Str} {v : V} {u : Value} {tb : TE} {Q : VK} {E : Value → Shared → Prop} (I : Inv X pins σ H s) (L : LamS1 X.env.scope scope x) (hN : X.N.Nodup) (hio : X.N[io]? = some x)
    (hf : s.heap.get? f = some (PySem.W.kla_obj "<lambda>" (X.env.qual ++ "<lambda>") params body scope (cloFrom X.env.cells scope.names []) pm c' ctv)) (hc : H c' = some (CodeO c' (X.env.qual ++ "<lambda>")))
    (hbind : bindArgs (PySem.W.kla_fn "<lambda>" (X.env.qual ++ "<lambda>") params body scope (cloFrom X.env.cells scope.names []) pm (.ref c') ctv) ⟨[u], []⟩ = pure [(x, u)]) (rv : RelV v u)
    (e0 : Env0 X.prog X.w X.K X.mg X.base A X.stack s H) (hr : Room (k + 1) A)
    (hbody : Room k (A.deeper (lamEnv X scope s.heap.objs.size f c')) → PE (lamCx X A X.stack s H E0 scope f c') body tb) (h : tb (σ.set io (some v)) H Q) :
    wpAny (model X.prog X.w) A (call (.ref f) [u]) (fun r s' => ∃ y H', Inv X pins σ H' s' ∧ Un (frs X.stack) [] H H' s.heap s'.heap ∧ RelV y r ∧ Q y H') E s := by
  obtain ⟨⟨oc, vs, t, hoc, hdc, hvc⟩, _, _⟩ := I.hok c' _ hc
  have rc : codeAny (model X.prog X.w) A (.call (.ref f) ⟨[u], []⟩) (CR (L2.CX X.prog X.w) X.stack X.prog X.w H s Q E0) s := by
    refine PySem.W.kla_callFunE hr.depth hf rfl L.co L.gen rfl ⟨c', oc, vs, t, rfl, hoc, hdc, hvc⟩ ?_
    rw [hbind]
    refine wpAny_pure (wpAny_newFunctionEnv (fun y hy => (L.own y hy).2) (fun y hy => ?_) (fun h₁ hns hsb => ⟨I.nolimit.fresh _ hsb, ?_⟩) L.kind)
    · rw [List.mem_singleton.mp hy]
      exact L.loc
    show codeAny _ _ (.expr body (lamEnv X scope s.heap.objs.size f c')) _ _
    have kp : ∀ b o, s.heap.get? b = some o → h₁.get? b = some o := fun b o e => hsb.extBut b o (Nat.ne_of_lt (Heap.lt_size e)) (Heap.get?_push_of_some _ e)
    have J : Inv (lamCx X A X.stack s H E0 scope f c') [] (σ.set io (some v)) H { s with heap := h₁, toks := s.toks + ([(x, u)] : List (Str × Value)).length } :=
      lam_start1 I L hN hio rv e0 hr.hd Un.refl hns kp
    refine PySem.W.kla_codeExpr (wpAny_mono ((hbody (hr.deeper _)).run [] _ _ H Q J h) (fun v s' hq => ?_) fun e s' hq => hq)
    obtain ⟨w', H', J', rv', q⟩ := hq
    exact ⟨w', H', J'.os, J'.bare, J'.base, J'.hok, rv', q⟩
  refine wpAny_call (codeAny_mono rc fun r s' hq => ?_)
  cases r with
  | error e =>
    obtain ⟨_, _, _, _, _, _, _, _, _, _, _, _, z⟩ := hq
    exact z.elim
  | ok fl =>
    cases fl with
    | ret u =>
      obtain ⟨v, H', os, bare, un, hok, r, q⟩ := hq
      obtain ⟨hh, g, d, t, os'⟩ := s'
      obtain rfl : os' = s.os := os
      exact ⟨v, H', I.call (h' := hh) (g' := g) (d' := d) (t' := t) (ch := []) un hok bare (fun b z => absurd z (by simp)), un, r, q⟩
    | next => exact False.elim hq
    | brk => exact False.elim hq
    | cont => exact False.elim hq
/-- max(e, key=lambda x: body) -/
def tMaxL (T : List (Addr × Str)) (ta : TA) (io : Nat) (tb : TE) : TE := fun σ H Q => ta σ H fun vs H1 => ∃ (L : Addr) (xs : List V) (key : Nat → Int), vs = [.ref L] ∧ H1 L = some (.lst xs) ∧ xs ≠ [] ∧ Tabs T H1 ∧ ∀ H2, ExtN H1 H2 → Tabs T H2 →
  (∀ i x H3, xs[i]? = some x → Same H2 H3 → tb (σ.set io (some x)) H3 fun v H4 => v = .int (key i) ∧ Same H3 H4) ∧ ∀ x ∈ xs, ∀ H3, Same H2 H3 → Q x H3
theorem pe_maxlam {T : List (Addr × Str)} {c P : Addr} {k io : Nat} {x : Str} {e : Expr} {ta : TA} {tb : TE} {params : Arguments} {body : Expr} {scope : Scope} {p lpos kp pos : Pos} (hc : X.calm = true) (hg : Gl X "max") (hm : X.mg "max" = none) (ha : PA X [e] ta)
    (TB : TabB X.base X.mg c P) (hcode : X.env.code = .ref c) (hmT : (P, X.env.qual ++ "<lambda>") ∈ T) (hu : ∀ p ∈ T, p.1 = P → p.2 = X.env.qual ++ "<lambda>") (hr : Room (k + 2) X.A) (L : LamS1 X.env.scope scope x) (hN : X.N.Nodup) (hio : X.N[io]? = some x) (hdef : defaultsOf params X.env = ([], []))
    (hbind : ∀ (q : Str) (cl : List (Str × Addr)) (pm cv ctv u : Value), bindArgs (PySem.W.kla_fn "<lambda>" q params body scope cl pm cv ctv) ⟨[u], []⟩ = pure [(x, u)])
    (hbody : ∀ (A : Around) (s : Shared) (H : Hp) (f c' : Addr), Room k (A.deeper (lamEnv X scope s.heap.objs.size f c')) → PE (lamCx X A X.stack s H E0 scope f c') body tb)
    (he : starEach [e] X.env = (false, eval e X.env) :: starEach [] X.env := by rfl) :
    PE X (.Call (.Name "max" p) [e] [⟨some "key", .Lambda params body scope lpos, kp⟩] pos) (tMaxL T ta io tb) := by
  refine ⟨fun pins s σ H Q I h => ?_⟩
  refine wpAny_Call_Name_kw (ld_blt I hg hm (by decide +kernel : bootBuiltins "max" = some (.builtin "max")) ?_)
  refine callWith_kw (thn (ha.run pos pins s σ H _ I h) fun us s1 ⟨vs, H1, I1, r1, q1⟩ => ?_) (by rw [he]; rfl) (by rw [he]; rfl)
  obtain ⟨LL, xs, key, rfl, hL1, ne, hT1, q1⟩ := q1
  obtain ⟨u, rfl, ru⟩ := vals1 r1
  obtain rfl : u = Value.ref LL := ru
  refine kws_cons (lam_make2 I1 TB hcode hmT hu hT1 hdef (L.has I1.ok) fun f c' pm ctv H2 s2 I2 eN T2 hf hfn hfr hco => ?_)
  refine kws_nil ?_
  obtain ⟨qb, q2⟩ := q1 H2 eN T2
  have hL2 : H2 LL = some (.lst xs) := eN _ _ hL1 (fun ps z => by cases z)
  show wpAny (model X.prog X.w) X.A (call (.builtin "max") [.ref LL] [(Str.ofString "key", .ref f)]) (EP X pins σ Q) X.xe s2
  refine call_max_walkK ?_
  obtain ⟨_, its, n0, vi, hli⟩ := I2.hok LL _ hL2
  have isl : s2.heap.IsList LL its.toArray := ⟨_, hli, rfl, _, rfl⟩
  have hlt : LL < s2.heap.objs.size := Heap.lt_size hli
  refine wpAny_pyIter_list isl ?_
  have hh : X.A.in1.handled = none := hr.hd
  have W := (walks_listR (prog := X.prog) (w := X.w) (A := X.A.in1) hh s2.heap.objs.size LL (Nat.ne_of_lt hlt) xs).toS
  generalize hIt : s2.heap.objs.size = It at W
  have k3 : ∀ b o, s2.heap.get? b = some o → (s2.heap.push { cls := .type "list_iterator", data := .fields #[.ref LL, .int 0 0] }).get? b = some o := fun b o e => Heap.get?_push_of_some _ e
  have I3 : Inv X pins σ H2 { s2 with heap := s2.heap.push { cls := .type "list_iterator", data := .fields #[.ref LL, .int 0 0] } } := I2.kept (t' := s2.toks) k3
  have hf3 := k3 _ _ hf
  have it3 : (s2.heap.push { cls := .type "list_iterator", data := .fields #[.ref LL, .int 0 0] }).IsListIter It LL 0 := by
    rw [← hIt]
    exact ⟨_, Heap.get?_push_size _ rfl, rfl, rfl⟩
  have is3 := isl.push { cls := .type "list_iterator", data := .fields #[.ref LL, .int 0 0] }
  have nIt : H2 It = none := by
    rw [← hIt]
    exact I2.hok.fresh (Nat.le_refl _)
  have fIt : FpOk X pins H2 It := I2.fpOk (Nat.le_of_eq hIt) nIt
  have sz3 : (s2.heap.push { cls := .type "list_iterator", data := .fields #[.ref LL, .int 0 0] }).objs.size = It + 1 := by
    rw [Heap.size_push, hIt]
  generalize s2.heap.push { cls := .type "list_iterator", data := .fields #[.ref LL, .int 0 0] } = h3 at I3 hf3 it3 is3 sz3
  have nfr : ∀ b, It ≤ b → b ∉ frs X.stack := fun b hb z => by
    rcases List.mem_cons.mp (I2.stkSub _ z) with e | e
    · have h1 := I2.lt
      rw [← e, hIt] at h1
      exact Nat.lt_irrefl _ (Nat.lt_of_lt_of_le h1 hb)
    · exact I2.nofs (by rw [hIt]; exact hb) e
  have fS : FpOk X pins H2 (It + 1) := I2.fpOk (by rw [hIt]; exact Nat.le_succ _) (I2.hok.fresh (by rw [hIt]; exact Nat.le_succ _))
  refine ⟨It, [It, LL], [It], _, xs.length, _, _, (fun s => ∃ H3, Inv X pins σ H3 s ∧ Same H2 H3 ∧ H3 It = none ∧ H3 (It + 1) = none ∧ H3 f = none ∧ s.heap.get? f = some (PySem.W.kla_obj "<lambda>" (X.env.qual ++ "<lambda>") params body scope (cloFrom X.env.cells scope.names []) pm c' ctv)), (fun i kk _ => ∃ t, kk = .int (key i) t), (fun i j => decide (key j < key i)), rfl, W, ⟨it3, _, is3, by simpa using vi⟩, ?_, ?_, ?_, ?_, ?_⟩
  · intro b hb
    show b < h3.objs.size
    rw [sz3]
    rcases List.mem_cons.mp hb with rfl | hb
    · exact Nat.lt_succ_self _
    · rw [List.mem_singleton.mp hb, ← hIt]
      exact Nat.lt_succ_of_lt hlt
  · exact Nat.pos_of_ne_zero fun z => ne (List.eq_nil_of_length_eq_zero z)
  · show KeyRun X.prog X.w X.A.in1 (.ref f) .Gt h3.objs.size [It] _ xs.length _ _ _ _ _
    rw [sz3]
    refine ⟨fun s s' hJ hm => ?_, fun i kk s s' hv _ => hv, fun i v s o Q' E' hi hP hJ hst hS cont => ?_, fun i j ki kj s Q' E' hJ hki hkj hq => ?_⟩
    · obtain ⟨H3, I4, ex, n1, n2, n3, hf4⟩ := hJ
      obtain ⟨hp, g, d, tt, os⟩ := s'
      obtain rfl : g = s.gens := hm.gens
      obtain rfl : d = s.drawn := hm.drawn
      obtain rfl : os = s.os := hm.os
      have I5 := I4.turnedL (t' := tt) (ch := [It + 1, It]) (fun b o hb e => hm.heap b o hb e) (fun b hb => by
        rcases List.mem_cons.mp hb with rfl | hb
        · exact ⟨n2, fS.2⟩
        · rw [List.mem_singleton.mp hb]
          exact ⟨n1, fIt.2⟩)
      have fl : f < It := by
        rw [← hIt]
        exact Heap.lt_size hf
      refine ⟨H3, I5, ex, n1, n2, n3, hm.heap f _ (fun z => ?_) hf4⟩
      rcases List.mem_cons.mp z with z | z
      · rw [z] at fl
        exact absurd fl (Nat.not_lt.mpr (Nat.le_succ It))
      · rw [List.mem_singleton.mp z] at fl
        exact Nat.lt_irrefl _ fl
    · obtain ⟨y, hy, ry⟩ := hP
      obtain ⟨H3, I4, ex, n1, n2, n3, hf4⟩ := hJ
      obtain ⟨hit, items, hl, hv⟩ := hst
      refine wpAny_mono (lam_call1 (k := k) I4 L hN hio hf4 (ex _ _ hco) (hbind _ _ _ _ _ _) ry I4.env0.in1 hr.in1 (fun hr' => hbody _ _ _ _ _ hr') (qb i y H3 hy ex)) (fun r s' hq => ?_) (fun _ _ z => z)
      obtain ⟨yy, H4, I5, un, ryy, rfl, ex4⟩ := hq
      obtain ⟨tt, rfl⟩ := ryy
      obtain ⟨oi, hoi, _⟩ := id hit
      have ex24 : Same H2 H4 := fun b o e => ex4 b o (ex b o e)
      obtain ⟨_, its4, n4, vi4, hli4⟩ := I5.hok LL _ (ex24 _ _ hL2)
      refine cont _ s' ⟨H4, I5, ex24, un.free It oi hoi n1 (by simp), un.free (It + 1) o hS n2 (by simp), un.free f _ hf4 n3 (by simp), un.keep f _ hf4 n3 hfr (by simp)⟩ ⟨hit.at fun o e => un.keep It o e n1 (nfr It (Nat.le_refl _)) (by simp), its4.toArray, ⟨_, hli4, rfl, _, rfl⟩, by simpa using vi4⟩ (un.keep (It + 1) o hS n2 (nfr _ (Nat.le_succ _)) (by simp)) ⟨_, rfl⟩ (fun j k' h => h)
    · obtain ⟨ti, rfl⟩ := hki
      obtain ⟨tj, rfl⟩ := hkj
      exact PySem.P.gt_int hq
  · exact ⟨H2, I3, fun _ _ e => e, nIt, fS.1, hfn, hf3⟩
  · intro v s' hP hJ
    obtain ⟨y, hy, ry⟩ := hP
    obtain ⟨H3, I4, ex, _⟩ := hJ
    exact ⟨y, H3, I4, ry, q2 y (List.mem_of_getElem? hy) H3 ex⟩
end
end Rc

namespace Rc
open PySem PySem.Spec PyProof.Rows L2 LamX
/-- the law's own heap at its entry: the script, and empty tables -/
def entryT (K : PySem.W.Frag) (ts : List Addr) (a : Addr) (o : Obj) (xs : List V) : Hp := fun b => if b ∈ ts then some (.tbl #[]) else entryH K a o xs b
/-- a law called where no repr is under way, with tables of code: cs, the code objects and their tables -/
theorem law_callGT {P : Program} {w : World} {K : PySem.W.Frag} {mg mb : Str → Option Value} {CX : CXT} {k : Nat} {fa a : Addr} {cs : List (Addr × Addr)} {fd : FuncData} {x : Str} {sp : Sp} {s₁ : Shared} {vs : List Value} {ns : List Int}
    (KX : K.In s₁.heap) (hns : s₁.heap.Ns mainGlobals mg) (hb : s₁.heap.Ns builtinsNs mb) (hbb : ∀ x : Str, x ≠ "__name__" → mb x = bootBuiltins x) (hlim : s₁.heap.NoLimit) (hg : s₁.gens = #[])
    (hT : ∀ p ∈ cs, s₁.heap.get? p.2 = some { cls := .none, data := .fields #[] }) (nT : ∀ p ∈ cs, K.lookup p.2 = none) (C : ∀ p ∈ cs, PySem.W.CodeHd s₁.heap p.1 p.2)
    (hbm : ∃ (bm : Addr) (ob : Obj), mg "__builtins__" = some (.ref bm) ∧ bm ≠ builtinsNs ∧ s₁.heap.get? bm = some ob ∧ ob.cls = .type "module" ∧ ob.dict = some builtinsNs ∧ ob.data = .plain)
    (ha : s₁.heap.get? a = some { cls := .type "list", data := .seq vs.toArray }) (hi : IntsAre vs ns) (hl : ns.length ≤ sizeLine) (hr : Room k callerA)
    (F : ∀ base : Heap, K.In base → base.Ns mainGlobals mg → (∀ p ∈ cs, TabB base mg p.1 p.2) → FnG P w K mg base CX k fa fd [x] sp) (hbind : ∀ (s : Shared) (u : Value), BindsTo s fd ⟨[u], []⟩ [(x, u)])
    (hsp : ∀ H : Hp, (∀ p ∈ cs, H p.2 = some (.tbl #[])) → SqL K H a (ns.map V.int) → sp [.ref a] H (fun v _ => v = .bl true) fun _ _ _ => False)
    (hCX : ∀ H e s', CX [] H s₁ (fun _ _ _ => False) e s' → False) :
    codeAny (model P w) callerA (.call (.ref fa) ⟨[.ref a], []⟩) (fun r s' => r = .ok (.ret (.bool true)) ∧ OldK s₁.heap s'.heap ∧ s'.os = s₁.os ∧ AllBare s'.gens) s₁ := by
  have rv := vals_ints hi
  have lv := hi.length
  have tab : ∀ {b : Addr}, b ∈ cs.map (·.2) → s₁.heap.get? b = some { cls := .none, data := .fields #[] } := fun {b} z => by
    obtain ⟨p, hp, rfl⟩ := List.mem_map.mp z
    exact hT p hp
  have mem : ∀ {p : Addr × Addr}, p ∈ cs → p.2 ∈ cs.map (·.2) := fun {p} hp => List.mem_map.mpr ⟨p, hp, rfl⟩
  have na : a ∉ cs.map (·.2) := fun z => by
    have e := tab z
    rw [ha] at e
    cases e
  generalize hH : entryT K (cs.map (·.2)) a { cls := .type "list", data := .seq vs.toArray } (ns.map V.int) = H
  have hat : ∀ {b : Addr} {u : HO}, H b = some u → (b ∈ cs.map (·.2) ∧ u = .tbl #[]) ∨ (b = a ∧ K.lookup a = none ∧ u = .frz { cls := .type "list", data := .seq vs.toArray } (.lst (ns.map V.int))) := fun {b u} e => by
    rw [← hH] at e
    unfold entryT at e
    split at e
    · rename_i z
      exact .inl ⟨z, (Option.some.inj e).symm⟩
    · exact .inr (entryH_at e)
  have hTb : ∀ p ∈ cs, H p.2 = some (.tbl #[]) := fun p hp => by
    rw [← hH]
    exact if_pos (mem hp)
  have sq : SqL K H a (ns.map V.int) := by
    cases hk : K.lookup a with
    | none =>
      refine .inl (.inr ⟨{ cls := .type "list", data := .seq vs.toArray }, ?_⟩)
      rw [← hH]
      exact (if_neg na).trans (if_pos ⟨rfl, hk⟩)
    | some o =>
      have e := KX a o hk
      rw [ha] at e
      cases e
      exact .inr ⟨_, vs.toArray, _, hk, rfl, rfl, rfl, by rw [List.size_toArray, lv]; exact hl, by simpa using rv⟩
  have hok : HOk P w H s₁.heap := fun b u e => by
    rcases hat e with ⟨z, rfl⟩ | ⟨rfl, _, rfl⟩
    · exact tab z
    · exact ⟨ha, by rw [List.length_map]; exact hl, vs, _, rv, ha⟩
  -- what is neither a list of values nor an empty table is not tracked
  have away : ∀ {b : Addr} {o : Obj}, s₁.heap.get? b = some o → (∀ z n, o.data ≠ .seq z n) → o.data ≠ .fields #[] → H b = none := fun {b o} e d1 d2 => by
    cases q : H b with
    | none => rfl
    | some u =>
      rcases hat q with ⟨z, _⟩ | ⟨rfl, _, _⟩
      · rw [tab z] at e
        cases e
        exact (d2 rfl).elim
      · rw [ha] at e
        cases e
        exact (d1 _ _ rfl).elim
  have nsK : ∀ {b : Addr} {m : Str → Option Value}, s₁.heap.Ns b m → (hidT s₁.heap H).Ns b m :=
    fun {b m} z => let ⟨o, es, ep, e, d, r⟩ := z; ⟨o, es, ep, hidT_get e (away e (fun z n y => by rw [d] at y; cases y) (fun y => by rw [d] at y; cases y)), d, r⟩
  have kb : K.In (hidT s₁.heap H) := fun b o e => hidT_get (KX b o e) (by
    cases q : H b with
    | none => rfl
    | some u =>
      rcases hat q with ⟨z, _⟩ | ⟨rfl, z, _⟩
      · obtain ⟨p, hp, rfl⟩ := List.mem_map.mp z
        rw [nT p hp] at e
        cases e
      · rw [z] at e
        cases e)
  have md : Mod K mg (hidT s₁.heap H) := ⟨kb, nsK hns, ⟨mb, nsK hb, hbb⟩, let ⟨mc, h1, h2⟩ := hlim; ⟨mc, nsK h1, h2⟩⟩
  have TB : ∀ p ∈ cs, TabB (hidT s₁.heap H) mg p.1 p.2 := fun p hp => by
    obtain ⟨gO, gE, gP, ge, gd, _⟩ := id hns
    have mp : mainGlobals ≠ p.2 := fun z => by
      rw [z, hT p hp] at ge
      cases ge
      cases gd
    refine ⟨?_, ?_, mp⟩
    · obtain ⟨o, us, file, tf, flags, tg, inF, text, tt, e1, r1, r2, r3, r4, r5, r6, r7, r8, r9⟩ := C p hp
      refine ⟨o, us, file, tf, flags, tg, inF, text, tt, hidT_get e1 (away e1 (fun z n y => by rw [r2] at y; cases y) fun y => ?_), r1, r2, r3, r4, r5, r6, r7, r8, r9⟩
      rw [r2] at y
      cases y
      simp at r3
    · obtain ⟨bm, ob, b1, b2, b3, b4, b5, b6⟩ := hbm
      refine ⟨bm, ob, b1, b2, fun z => ?_, fun z => ?_, hidT_get b3 (away b3 (fun z n y => by rw [b6] at y; cases y) fun y => by rw [b6] at y; cases y), b4, b5, b6⟩
      · rw [z, ge] at b3
        cases b3
        rw [gd] at b6
        cases b6
      · rw [z, hT p hp] at b3
        cases b3
        cases b6
  have e0 : Env0 P w K mg (hidT s₁.heap H) callerA [] s₁ H :=
    { frames := rfl, mod := md, bs := fun b o e => of_hidT e, bsz := Nat.le_of_eq (hidT_size _ _), funs := trivial, frf := fun b z => absurd (show b ∈ ([] : List Addr) from z) (by simp), hok := hok, bare := .of_eq hg }
  refine codeAny_mono ((F _ kb (nsK hns) TB).go callerA [] s₁ H ⟨[.ref a], []⟩ [.ref a] [.ref a] _ _ hr rfl e0 (hbind s₁ (.ref a)) (.cons rfl .nil) (hsp H hTb sq)) fun r s' h => ?_
  match r, h with
  | .error e, h => exact (hCX H e s' h).elim
  | .ok .next, h => exact h.elim
  | .ok .brk, h => exact h.elim
  | .ok .cont, h => exact h.elim
  | .ok (.ret u), h =>
    obtain ⟨v, H', os, bare, un, hok', r', q⟩ := h
    have q' : v = .bl true := q
    subst q'
    obtain rfl : u = Value.bool true := r'
    have rest : ∀ b o, b ∉ cs.map (·.2) → s₁.heap.get? b = some o → s'.heap.get? b = some o := fun b o nb e => by
      cases z : H b with
      | none => exact un.keep b o e z (fun y => absurd (show b ∈ ([] : List Addr) from y) (by simp)) (by simp)
      | some u =>
        rcases hat z with ⟨y, _⟩ | ⟨rfl, _, rfl⟩
        · exact absurd y nb
        · have e2 := (hok' _ _ (un.frzs _ _ _ z)).1
          rw [ha] at e
          cases e
          exact e2
    have grown : ∀ p ∈ cs, ∃ more : Array Value, s'.heap.get? p.2 = some { cls := .none, data := .fields more } := fun p hp => by
      obtain ⟨more, z⟩ := un.tbls p.2 #[] (hTb p hp)
      exact ⟨_, hok' p.2 _ z⟩
    refine ⟨rfl, ⟨fun b o e => ?_, fun b o e => ?_⟩, os, bare⟩
    · by_cases hm : b ∈ cs.map (·.2)
      · obtain ⟨p, hp, rfl⟩ := List.mem_map.mp hm
        obtain ⟨more, z⟩ := grown p hp
        rw [hT p hp] at e
        cases e
        exact .inr (.inl ⟨((C p hp).tab (hT p hp)).isCodeTable, rfl, #[], more, rfl, by rw [Array.empty_append]; exact z⟩)
      · exact .inl (rest b o hm e)
    · by_cases hm : b ∈ cs.map (·.2)
      · obtain ⟨p, hp, rfl⟩ := List.mem_map.mp hm
        obtain ⟨more, z⟩ := grown p hp
        exact ⟨_, z⟩
      · exact ⟨o, rest b o hm e⟩
/-- what a law's end file must bring, tables of code among it -/
def LawAtG (l : PySem.W.OpenLaw) (w : World) (K : PySem.W.Frag) (CX : CXT) (k n : Nat) (x : Str) (mg : Str → Option Value) (fa : Addr) (h : Heap) : Prop :=
  ∃ (fd : FuncData) (cs : List (Addr × Addr)) (sp : Sp), (∀ p ∈ cs, h.get? p.2 = some { cls := .none, data := .fields #[] } ∧ K.lookup p.2 = none ∧ PySem.W.CodeHd h p.1 p.2) ∧ (∀ (s : Shared) (u : Value), BindsTo s fd ⟨[u], []⟩ [(x, u)]) ∧
    (∀ (H : Hp) (a : Addr) (ns : List Int), ns.length ≤ n → (∀ p ∈ cs, H p.2 = some (.tbl #[])) → SqL K H a (ns.map V.int) → sp [.ref a] H (fun v _ => v = .bl true) fun _ _ _ => False) ∧
    ∀ base : Heap, K.In base → base.Ns mainGlobals mg → (∀ p ∈ cs, TabB base mg p.1 p.2) → FnG l.prog w K mg base CX k fa fd [x] sp
theorem walk_ofGT {l : PySem.W.OpenLaw} {n k : Nat} {q : Program} {loose : List Str} {XP : (Str → Option Value) → Heap → Prop} {YP : World → Heap → Prop} {d : DefRec} {K : Params → PySem.W.Frag} {CX : World → CXT} {x : Str}
    (hn : l.most = some n) (hn2 : n ≤ sizeLine) (hdf : d.params.defaults = []) (hr : Room k callerA) (hY : ∀ (w : World) (h : Heap), YP w h → (K w.params).In h)
    (F : ∀ (w : World) (mg : Str → Option Value) (fa : Addr) (h : Heap), YP w h → (K w.params).In h → h.Ns mainGlobals mg → mg d.name = some (.ref fa) → LawAtG l w (K w.params) (CX w) k n x mg fa h)
    (hCX : ∀ (w : World) (H : Hp) (s : Shared) (e : Value) (s' : Shared), CX w [] H s (fun _ _ _ => False) e s' → False) :
    PySem.W.WalkO q loose XP YP l.row.toRowW d [] (fun f vs => PySem.call f vs) := by
  refine Att.attach_call hn hdf fun w s₀ s₁ mg mb fa o pm cd doc a vs ns G Y ho hd hcd hmg hobj hints hlen hg => ?_
  obtain ⟨fd, cs, sp, hT, b1, hsp, b2⟩ := F w mg fa _ Y (hY w _ Y) G.T.g hmg
  exact law_callGT (hY w _ Y) G.T.g G.T.b G.T.builtins G.T.nolimit hg (fun p hp => (hT p hp).1) (fun p hp => (hT p hp).2.1) (fun p hp => (hT p hp).2.2) G.T.bmain hobj hints (Nat.le_trans hlen hn2) hr b2 b1 (fun H hH hS => hsp H a ns hlen hH hS) fun H e s' => hCX w H s₁ e s'
end Rc

namespace Rc
open PySem PySem.Spec PyProof.Rows L2 LamX PySem.W
/-! ### sorted(a list, key = f), by keys that stand in order already -/
theorem each_range {α : Type} {vs : List α} {n : Nat} (hn : vs.length = n) : EachIs (fun (v : α) (i : Nat) => vs[i]? = some v) vs (List.range n) := by
  have go : ∀ (l : List α) (k : Nat), (∀ i x, l[i]? = some x → vs[k + i]? = some x) → EachIs (fun (v : α) (i : Nat) => vs[i]? = some v) l (List.range' k l.length) := by
    intro l
    induction l with
    | nil => exact fun k _ => .nil
    | cons x r ih =>
      intro k h
      rw [List.length_cons, List.range'_succ]
      refine .cons (by simpa using h 0 x rfl) (ih (k + 1) fun i y e => ?_)
      rw [show k + 1 + i = k + (i + 1) by omega]
      exact h (i + 1) y e
  have e := go vs 0 fun i x e => by rwa [Nat.zero_add]
  rw [hn, ← List.range_eq_range'] at e
  exact e
theorem each_same {α : Type} {vs : List α} : ∀ {out : List α} {k n : Nat}, EachIs (fun (v : α) (i : Nat) => vs[i]? = some v) out (List.range' k n) → ∀ i < n, out[i]? = vs[k + i]?
  | [], k, n, h, i, hi => by
    cases n with
    | zero => omega
    | succ n => rw [List.range'_succ] at h; cases h
  | x :: r, k, n, h, i, hi => by
    cases n with
    | zero => omega
    | succ n =>
      rw [List.range'_succ] at h
      cases h with
      | cons a b =>
        cases i with
        | zero => simpa using a.symm
        | succ i =>
          rw [List.getElem?_cons_succ, each_same b i (by omega), show k + 1 + i = k + (i + 1) by omega]
theorem ints_each {h : Heap} {l : List Value} {ks : List Int} (e : EachIs (fun (v : Value) (k : Int) => ∃ t, v = .int k t) l ks) : EachIs (fun v d => ∃ as, Reads h v d as) l (ks.map PyData.int) := by
  induction e with
  | nil => exact .nil
  | cons a b ih =>
    obtain ⟨t, rfl⟩ := a
    exact .cons ⟨_, Reads.int _ t⟩ ih
section
variable {prog : Program} {w : World} {A : Around} {E : Value → Shared → Prop} {s : Shared}
/-- what is told of a state in which a key is asked -/
structure KeyJ (n0 : Nat) (J : Shared → Prop) : Prop where
  turn : ∀ (s' : Shared) (h' : Heap) (tk : Nat) (ch : List Addr), J s' → (∀ b o, b ∉ ch → s'.heap.get? b = some o → h'.get? b = some o) → (∀ b ∈ ch, n0 ≤ b) → J { s' with heap := h', toks := tk }
theorem KeyJ.one {n0 : Nat} {J : Shared → Prop} (h : KeyJ n0 J) {s' : Shared} {a : Addr} {h' : Heap} (tk : Nat) (j : J s') (sb : Heap.SameBut a s'.heap h') (ha : n0 ≤ a) : J { s' with heap := h', toks := tk } :=
  h.turn s' h' tk [a] j (fun b o nb e => (sb.2 b (fun z => nb (by rw [z]; exact List.mem_singleton.mpr rfl))).trans e) fun b hb => by rw [List.mem_singleton.mp hb]; exact ha
theorem sorted_keyJ {l : Addr} {f : Value} {kw : List (Str × Value)} {vs : List Value} {ks : List Int} {J : Shared → Prop} {Q : Value → Shared → Prop} (hl : s.heap.IsList l vs.toArray) (hlen : ks.length = vs.length) (hL : vs.length ≤ sizeLine) (hal : ks.Pairwise (· ≤ ·)) (hu : A.units + 3 < cLine)
    (ha1 : argsOk "sorted" ⟨[.ref l], kw⟩) (ha2 : ∀ x, argsOk "list.sort" ⟨[.ref x], kw⟩) (ht : ∀ x, Builtin.«list.sort» ⟨[.ref x], kw⟩ = ksk_tree x f false)
    (KJ : KeyJ s.heap.objs.size J) (J0 : J s)
    (turn : ∀ (i : Nat) (v : Value) (k : Int), vs[i]? = some v → ks[i]? = some k → ∀ s' : Shared, J s' → wpAny (model prog w) A.in1.in1 (call f [v]) (fun r s'' => J s'' ∧ (∃ t, r = .int k t) ∧ ∀ b o, s.heap.objs.size ≤ b → s'.heap.get? b = some o → s''.heap.get? b = some o) (fun _ _ => False) s')
    (h : ∀ (s' : Shared) (c : Nat), J s' → s'.heap.get? (s.heap.objs.size + 1) = some (seqObj "list" vs.toArray c) → Q (.ref (s.heap.objs.size + 1)) s') :
    wpAny (model prog w) A (call (.builtin "sorted") [.ref l] kw) Q E s := by
  refine sorted_of_sort hl hL ha1 ha2 fun E' => ?_
  rw [ht]
  have n1 : s.heap.objs.size ≤ s.heap.objs.size + 1 := Nat.le_succ _
  have hA := copyHeap_at s.heap vs
  have J1 : J { s with heap := copyHeap s.heap vs } := KJ.turn s (copyHeap s.heap vs) s.toks [] J0 (fun b o _ e => copyHeap_old e) fun _ z => nomatch z
  have hsz : s.heap.objs.size + 1 < (copyHeap s.heap vs).objs.size := Heap.lt_size hA
  generalize hh1 : copyHeap s.heap vs = h1 at hA J1 hsz
  clear hh1
  obtain ⟨n0, hn0⟩ : ∃ n0, s.heap.objs.size = n0 := ⟨_, rfl⟩
  rw [hn0] at hA hsz n1 turn h KJ ⊢
  obtain ⟨a, hna⟩ : ∃ a, n0 + 1 = a := ⟨_, rfl⟩
  rw [hna] at hA hsz n1 h ⊢
  obtain ⟨e1, ho1⟩ : ∃ e1, (h1.update a (Obj.mapSeq fun _ => (#[] : Array Value))).get? a = some (seqObj "list" #[] e1) := ⟨_, get?_update_seq hA fun _ => #[]⟩
  have sb1 := Heap.SameBut.update h1 a (Obj.mapSeq fun _ => (#[] : Array Value))
  have J2 : J { s with heap := h1.update a (Obj.mapSeq fun _ => (#[] : Array Value)) } := KJ.one (s' := { s with heap := h1 }) s.toks J1 sb1 n1
  have z2 : (h1.update a (Obj.mapSeq fun _ => (#[] : Array Value))).objs.size = h1.objs.size := Heap.size_update ..
  unfold ksk_tree
  refine wpAny_bind (listItems_at hA rfl ?_)
  refine wpAny_bind (listUpdate_at hA rfl ?_ (by rw [List.size_toArray]; exact hL) (Nat.zero_le _))
  refine wpAny_bind (seqEpoch_at ho1 rfl ?_)
  refine wpAny_bind (wpAny_newTuple ?_ (by show vs.length ≤ _; exact hL))
  refine wpAny_bind (wpAny_newList ?_ (Nat.zero_le _))
  refine wpAny_holding ?_
  obtain ⟨kS, hkS⟩ : ∃ kS, ((h1.update a (Obj.mapSeq fun _ => (#[] : Array Value))).push (seqObj "tuple" vs.toArray 0)).objs.size = kS := ⟨_, rfl⟩
  have hkz : kS = h1.objs.size + 1 := by rw [← hkS, size_push', z2]
  have ka : kS ≠ a := by omega
  have nk0 : n0 ≤ kS := by omega
  have J3 : J { s with heap := ((h1.update a (Obj.mapSeq fun _ => (#[] : Array Value))).push (seqObj "tuple" vs.toArray 0)).push (seqObj "list" #[] 0) } :=
    KJ.turn { s with heap := h1.update a (Obj.mapSeq fun _ => (#[] : Array Value)) } _ s.toks [] J2 (fun b o _ e => Heap.get?_push_of_some _ (Heap.get?_push_of_some _ e)) fun _ z => nomatch z
  have gS : (((h1.update a (Obj.mapSeq fun _ => (#[] : Array Value))).push (seqObj "tuple" vs.toArray 0)).push (seqObj "list" #[] 0)).get? kS = some (seqObj "list" #[] 0) := by
    rw [← hkS]
    exact Heap.get?_push_size _ rfl
  have gA : (((h1.update a (Obj.mapSeq fun _ => (#[] : Array Value))).push (seqObj "tuple" vs.toArray 0)).push (seqObj "list" #[] 0)).get? a = some (seqObj "list" #[] e1) := Heap.get?_push_of_some _ (Heap.get?_push_of_some _ ho1)
  show wpAny (model prog w) A.in1.in1 (ksk_rest a f false vs.toArray e1 (.ref ((h1.update a (Obj.mapSeq fun _ => (#[] : Array Value))).push (seqObj "tuple" vs.toArray 0)).objs.size)) _ _ { s with heap := ((h1.update a (Obj.mapSeq fun _ => (#[] : Array Value))).push (seqObj "tuple" vs.toArray 0)).push (seqObj "list" #[] 0) }
  rw [hkS]
  generalize ((h1.update a (Obj.mapSeq fun _ => (#[] : Array Value))).push (seqObj "tuple" vs.toArray 0)).push (seqObj "list" #[] 0) = h3 at J3 gS gA
  clear hkz hkS z2 J2 sb1 ho1 J1 hA hsz
  unfold ksk_rest
  refine wpAny_bind (wpAny_rule ?_)
  rw [List.forIn_toArray]
  refine wpAny_bind (ksk_fold (fun i s' => ∃ (kA : Array Value) (e : Nat), J s' ∧ s'.heap.get? kS = some (seqObj "list" kA e) ∧ s'.heap.get? a = some (seqObj "list" #[] e1) ∧ EachIs (fun (v : Value) (k : Int) => ∃ t, v = .int k t) kA.toList (ks.take i)) vs 0 _
    ⟨#[], 0, J3, gS, gA, by rw [List.take_zero]; exact .nil⟩ (fun j x s' hx hI => ?_) (fun s' hI => ?_))
  · obtain ⟨kA, e, jj, g1, g2, hk⟩ := hI
    rw [Nat.zero_add] at hk ⊢
    have hj : j < vs.length := (List.getElem?_eq_some_iff.mp hx).1
    have hkj : ks[j]? = some (ks[j]'(by omega)) := List.getElem?_eq_getElem (by omega)
    have hz : kA.size ≤ vs.length := by
      have h1 := hk.length
      rw [Array.length_toList, List.length_take] at h1
      omega
    refine wpAny_bind (wpAny_attempt (wpAny_mono (turn j x _ hx hkj s' jj) (fun v s'' he => ?_) fun _ _ hF => hF.elim))
    obtain ⟨j2, ⟨t, rfl⟩, kp⟩ := he
    have g3 := kp _ _ nk0 g1
    have g4 := kp _ _ n1 g2
    have sb := Heap.SameBut.update s''.heap kS (Obj.mapSeq (·.push (.int (ks[j]'(by omega)) t)))
    obtain ⟨c2, hc2⟩ : ∃ c2, (s''.heap.update kS (Obj.mapSeq (·.push (.int (ks[j]'(by omega)) t)))).get? kS = some (seqObj "list" (kA.push (.int (ks[j]'(by omega)) t)) c2) := ⟨_, get?_update_seq g3 (·.push _)⟩
    have ek : ks.take (j + 1) = ks.take j ++ [ks[j]'(by omega)] := by rw [List.take_add_one, hkj]; rfl
    refine wpAny_bind (listUpdate_at g3 rfl ?_ (Nat.le_trans hz hL) (Nat.le_trans (Nat.le_of_eq (Array.size_push ..)) (Nat.succ_le_succ (Nat.le_trans hz hL))))
    refine wpAny_pure ⟨rfl, _, c2, KJ.one s''.toks j2 sb nk0, hc2, (sb.2 a ka.symm).trans g4, ?_⟩
    rw [ek, show (kA.push (Value.int (ks[j]'(by omega)) t)).toList = kA.toList ++ [.int (ks[j]'(by omega)) t] by simp]
    exact each_snoc ⟨t, rfl⟩ hk
  · obtain ⟨kA, e, jj, g1, g2, hk⟩ := hI
    rw [Nat.zero_add, List.take_of_length_le (by omega)] at hk
    have hsz : kA.size = vs.length := by
      have h1 := hk.length
      rw [Array.length_toList] at h1
      omega
    have hk' := ints_each (h := s'.heap) hk
    have al : AllAlike (ks.map PyData.int) := fun d hd d' hd' => by
      obtain ⟨x, _, rfl⟩ := List.mem_map.mp hd
      obtain ⟨y, _, rfl⟩ := List.mem_map.mp hd'
      rfl
    have sk : Sortable (ks.map PyData.int) := .inr fun d hd => by
      obtain ⟨x, _, rfl⟩ := List.mem_map.mp hd
      exact ⟨(fun z => by cases z), (fun _ z => by cases z)⟩
    refine wpAny_bind (listItems_at g1 rfl ?_)
    have kp : KeepsBut a (s'.heap.update kS fun o => { o with data := .freed }) s'.heap := fun b o hb q => by
      by_cases hbk : b = kS
      · rw [hbk, TI.get?_update_freed] at q
        cases q
      · rw [Heap.get?_update_other _ _ (Ne.symm hbk)] at q
        exact q
    refine keyH_end (κ := dataKind s'.heap (ks.map PyData.int)) (h₁ := s'.heap.update kS fun o => { o with data := .freed }) kp (TI.get?_update_freed _ _) g1 g2 ka (SortsAt.data hk' al sk fun d hd => ?_) hsz hL fun h' tk c k3 n3 => ⟨rfl, ?_⟩
    · obtain ⟨x, _, rfl⟩ := List.mem_map.mp hd
      show A.in1.in1.units + _ < _
      simp only [PyData.depth, PySem.Around.in1_units]
      omega
    have ko : KeyedOut false ((List.range vs.length).map fun i => PyData.int (ks.getD i 0)) vs (sortVals (dataKind s'.heap (ks.map PyData.int)) false kA.toList vs) := by
      have e : ((List.range vs.length).map fun i => PyData.int (ks.getD i 0)) = ks.map PyData.int := by
        refine List.ext_getElem? fun i => ?_
        rw [List.getElem?_map, List.getElem?_map]
        by_cases hi : i < vs.length
        · rw [List.getElem?_range hi, List.getElem?_eq_getElem (by omega : i < ks.length)]
          simp [List.getD_eq_getElem?_getD, List.getElem?_eq_getElem (by omega : i < ks.length)]
        · rw [List.getElem?_eq_none (by rw [List.length_range]; omega), List.getElem?_eq_none (by omega)]
          rfl
      rw [e]
      exact ⟨s'.heap, kA.toList, al, rfl, hk'⟩
    have eo := keyedOut_each (R := fun (v : Value) (i : Nat) => vs[i]? = some v) (fun i => PyData.int (ks.getD i 0)) ko (each_range rfl)
    rw [dataLe_int, List.mergeSort_of_pairwise ?_, List.range_eq_range'] at eo
    · have e : sortVals (dataKind s'.heap (ks.map PyData.int)) false kA.toList vs = vs := by
        refine List.ext_getElem? fun i => ?_
        have le := eo.length
        rw [List.length_range'] at le
        by_cases hi : i < vs.length
        · have := each_same eo i hi
          rwa [Nat.zero_add] at this
        · rw [List.getElem?_eq_none (by omega), List.getElem?_eq_none (by omega)]
      rw [e] at n3
      refine h _ c (KJ.turn s' h' tk [a, kS] jj (fun b o nb q => k3 b o (fun z => nb (by rw [z]; exact List.mem_cons_self)) ?_) fun b hb => ?_) n3
      · rw [Heap.get?_update_other _ _ fun z => nb (by rw [z]; exact List.mem_cons_of_mem _ List.mem_cons_self)]
        exact q
      · rcases List.mem_cons.mp hb with rfl | hb
        · exact n1
        · rw [List.mem_singleton.mp hb]
          exact nk0
    · rw [List.pairwise_iff_getElem]
      intro i j hi hj hij
      rw [List.length_range] at hi hj
      simp only [List.getElem_range, decide_eq_true_eq]
      have e1 : ks.getD i 0 = ks[i]'(by omega) := by simp [List.getD_eq_getElem?_getD, List.getElem?_eq_getElem (by omega : i < ks.length)]
      have e2 : ks.getD j 0 = ks[j]'(by omega) := by simp [List.getD_eq_getElem?_getD, List.getElem?_eq_getElem (by omega : j < ks.length)]
      rw [e1, e2]
      exact List.pairwise_iff_getElem.mp hal i j (by omega) (by omega) hij
end
section
variable {X : Cx} {pins : List (Addr × Obj)} {σ : L2.St} {H HZ : Hp} {s s1 : Shared}
/-- sorted(e, key=lambda x: body), where the keys stand in order -/
def tSortL (T : List (Addr × Str)) (ta : TA) (io : Nat) (tb : TE) : TE := fun σ H Q => ta σ H fun vs H1 => ∃ (L : Addr) (xs : List V) (ks : List Int), vs = [.ref L] ∧ H1 L = some (.lst xs) ∧ ks.length = xs.length ∧ ks.Pairwise (· ≤ ·) ∧ Tabs T H1 ∧ ∀ H2, ExtN H1 H2 → Tabs T H2 →
  (∀ (i : Nat) (x : V) (k : Int), xs[i]? = some x → ks[i]? = some k → tb (σ.set io (some x)) H2 fun v H4 => v = .int k ∧ H4 = H2) ∧ ∀ r, H2 r = none → Q (.ref r) (upd H2 r (.lst xs))
theorem pe_sortlam {T : List (Addr × Str)} {c P : Addr} {k io : Nat} {x : Str} {e : Expr} {ta : TA} {tb : TE} {params : Arguments} {body : Expr} {scope : Scope} {p lpos kp pos : Pos} (hc : X.calm = true) (hg : Gl X "sorted") (hm : X.mg "sorted" = none) (ha : PA X [e] ta)
    (TB : TabB X.base X.mg c P) (hcode : X.env.code = .ref c) (hmT : (P, X.env.qual ++ "<lambda>") ∈ T) (hu : ∀ p ∈ T, p.1 = P → p.2 = X.env.qual ++ "<lambda>") (hr : Room (k + 3) X.A) (L : LamS1 X.env.scope scope x) (hN : X.N.Nodup) (hio : X.N[io]? = some x) (hdef : defaultsOf params X.env = ([], []))
    (hbind : ∀ (q : Str) (cl : List (Str × Addr)) (pm cv ctv u : Value), bindArgs (PySem.W.kla_fn "<lambda>" q params body scope cl pm cv ctv) ⟨[u], []⟩ = pure [(x, u)])
    (hbody : ∀ (A : Around) (s : Shared) (H : Hp) (f c' : Addr), Room k (A.deeper (lamEnv X scope s.heap.objs.size f c')) → PE (lamCx X A X.stack s H E0 scope f c') body tb)
    (he : starEach [e] X.env = (false, eval e X.env) :: starEach [] X.env := by rfl) :
    PE X (.Call (.Name "sorted" p) [e] [⟨some "key", .Lambda params body scope lpos, kp⟩] pos) (tSortL T ta io tb) := by
  refine ⟨fun pins s σ H Q I h => ?_⟩
  refine wpAny_Call_Name_kw (ld_blt I hg hm (by decide +kernel : bootBuiltins "sorted" = some (.builtin "sorted")) ?_)
  refine callWith_kw (thn (ha.run pos pins s σ H _ I h) fun us s1 ⟨vs, H1, I1, r1, q1⟩ => ?_) (by rw [he]; rfl) (by rw [he]; rfl)
  obtain ⟨LL, xs, ks, rfl, hL1, lks, asc, hT1, q1⟩ := q1
  obtain ⟨u, rfl, ru⟩ := vals1 r1
  obtain rfl : u = Value.ref LL := ru
  refine kws_cons (lam_make2 I1 TB hcode hmT hu hT1 hdef (L.has I1.ok) fun f c' pm ctv H2 s2 I2 eN T2 hf hfn hfr hco => ?_)
  refine kws_nil ?_
  obtain ⟨qb, q2⟩ := q1 H2 eN T2
  have hL2 : H2 LL = some (.lst xs) := eN _ _ hL1 (fun ps z => by cases z)
  show wpAny (model X.prog X.w) X.A (call (.builtin "sorted") [.ref LL] [(Str.ofString "key", .ref f)]) (EP X pins σ Q) X.xe s2
  obtain ⟨hz, its, n0, vi, hli⟩ := I2.hok LL _ hL2
  have isl : s2.heap.IsList LL its.toArray := ⟨_, hli, rfl, _, rfl⟩
  have hf0 : f < s2.heap.objs.size := Heap.lt_size hf
  have frb : ∀ {b}, s2.heap.objs.size ≤ b → FpOk X pins H2 b := fun {b} hb => I2.fpOk hb (I2.hok.fresh hb)
  have nfr : ∀ b, s2.heap.objs.size ≤ b → b ∉ frs X.stack := fun b hb z => by
    rcases List.mem_cons.mp (I2.stkSub _ z) with e | e
    · have h1 := I2.lt
      rw [← e] at h1
      exact Nat.lt_irrefl _ (Nat.lt_of_lt_of_le h1 hb)
    · exact I2.nofs hb e
  have lv := vi.length
  refine sorted_keyJ (vs := its) (ks := ks) (J := fun s' => Inv X pins σ H2 s' ∧ s'.heap.get? f = some (PySem.W.kla_obj "<lambda>" (X.env.qual ++ "<lambda>") params body scope (cloFrom X.env.cells scope.names []) pm c' ctv))
    isl (by omega) (by rw [← lv]; exact hz) asc (by have := hr.un; omega) (PyProof.Rows.ksk_s1 _ _) (fun _ => PyProof.Rows.ksk_l1 _ _) (fun _ => PyProof.Rows.ksk_t1 _ _)
    ⟨fun s' h' tk ch hJ kk hch => ⟨hJ.1.turnedL (t' := tk) (ch := ch) kk fun b hb => frb (hch b hb), kk f _ (fun z => Nat.lt_irrefl _ (Nat.lt_of_lt_of_le hf0 (hch f z))) hJ.2⟩⟩ ⟨I2, hf⟩ (fun i v kk hv hk s' hJ => ?_) (fun s' cc hJ hA => ?_)
  · obtain ⟨I4, hf4⟩ := hJ
    have hi : i < xs.length := by
      have := (List.getElem?_eq_some_iff.mp hv).1
      omega
    obtain ⟨y, hy⟩ : ∃ y, xs[i]? = some y := ⟨_, List.getElem?_eq_getElem hi⟩
    obtain ⟨u, hu', ry⟩ := vi.get hy
    rw [hv] at hu'
    cases hu'
    refine wpAny_mono (lam_call1 (k := k) I4 L hN hio hf4 hco (hbind _ _ _ _ _ _) ry I4.env0.in1.in1 hr.in1.in1 (fun hr' => hbody _ _ _ _ _ hr') (qb i y kk hy hk)) (fun r s'' hq => ?_) (fun _ _ z => z)
    obtain ⟨yy, H4, I5, un, ryy, rfl, rfl⟩ := hq
    obtain ⟨tt, rfl⟩ := ryy
    exact ⟨⟨I5, un.keep f _ hf4 hfn hfr (by simp)⟩, ⟨tt, rfl⟩, fun b o hb e => un.keep b o e (I2.hok.fresh hb) (nfr b hb) (by simp)⟩
  · obtain ⟨I6, _⟩ := hJ
    have nA : s2.heap.objs.size ≤ s2.heap.objs.size + 1 := Nat.le_succ _
    have nH := I2.hok.fresh nA
    generalize s2.heap.objs.size + 1 = a at hA nA nH
    have I7 : Inv X pins σ H2 { s' with heap := s'.heap.update a fun o => { o with data := .freed } } := I6.turnedL (t' := s'.toks) (ch := [a]) (fun b o nb e => by
      rw [Heap.get?_update_other _ _ fun z => nb (by rw [z]; exact List.mem_singleton.mpr rfl)]
      exact e) fun b hb => by
        rw [List.mem_singleton.mp hb]
        exact frb nA
    have I8 := I7.laidN (h' := s'.heap) (a := a) (o := .lst xs) (t' := s'.toks) (fun b u e => by
      by_cases hb : a = b
      · have e : (s'.heap.update a fun o => { o with data := .freed }).get? b = some u := e
        rw [← hb, TI.get?_update_freed] at e
        cases e
      · have e : (s'.heap.update a fun o => { o with data := .freed }).get? b = some u := e
        rw [Heap.get?_update_other _ _ hb] at e
        exact e) (TI.get?_update_freed _ _) nH ⟨hz, its, cc, vi, hA⟩
    exact ⟨.ref a, _, I8, rfl, q2 a nH⟩
end
end Rc

namespace Rc
open PySem PySem.Spec PyProof.Rows L2 RZ
def abcS : Str := "abcdefghijklmnopqrstuvwxyz"
theorem abcS_len : abcS.length = 26 := by decide +kernel
theorem abcS_abc : abcS.cps.toList = abc := letters_abc
theorem nodup_le {α : Type} [DecidableEq α] : ∀ (l zs : List α), l.Nodup → (∀ x ∈ l, x ∈ zs) → l.length ≤ zs.length
  | [], _, _, _ => Nat.zero_le _
  | a :: r, zs, nd, h => by
    have hn := List.nodup_cons.mp nd
    have ha : a ∈ zs := h a List.mem_cons_self
    have ih := nodup_le r (zs.erase a) hn.2 fun x hx => by
      have ne : x ≠ a := fun e => hn.1 (e ▸ hx)
      exact (List.mem_erase_of_ne ne).mpr (h x (List.mem_cons_of_mem _ hx))
    rw [List.length_erase_of_mem ha] at ih
    have : 0 < zs.length := List.length_pos_of_mem ha
    rw [List.length_cons]
    omega
def oneS (c : Nat) : Str := ⟨#[c]⟩
theorem oneS_name {c : Nat} (h : c ∈ abc) : nameT (oneS c) = true := by
  have e1 : (oneS c).length = 1 := rfl
  have e2 : (oneS c).cps.toList = [c] := rfl
  unfold nameT
  rw [e1, e2]
  simp [h]
theorem abc_nodup : (abc.map oneS).Nodup := by decide +kernel
/-- some letter is not among thirteen names -/
theorem free_letter {zs : List Str} (h : zs.length ≤ 13) : (abc.filter fun c => !decide (oneS c ∈ zs)) ≠ [] := fun e => by
  have hall : ∀ x ∈ abc.map oneS, x ∈ zs := fun x hx => by
    obtain ⟨c, hc, rfl⟩ := List.mem_map.mp hx
    by_cases hz : oneS c ∈ zs
    · exact hz
    · have hm : c ∈ abc.filter fun c => !decide (oneS c ∈ zs) := List.mem_filter.mpr ⟨hc, by simp [hz]⟩
      rw [e] at hm
      cases hm
  have := nodup_le _ _ abc_nodup hall
  rw [List.length_map] at this
  have e26 : abc.length = 26 := by decide
  omega
theorem nameT_of {z : Str} (h1 : 1 ≤ z.length) (h2 : z.length ≤ 8) (h3 : ∀ c ∈ z.cps.toList, c ∈ abc) : nameT z = true := by
  unfold nameT
  rw [decide_eq_true h1, decide_eq_true h2]
  simp only [Bool.true_and, List.all_eq_true, decide_eq_true_eq]
  exact h3
def wordsL : List Str := ["person", "persons", "pay", "clear", "settle", "put", "give", "yes"]
theorem words_ok : ∀ z ∈ wordsL, nameT z = true := by decide +kernel
section
variable {P : Program} {w : World} {K : PySem.W.Frag} {mg : Str → Option Value} {base : Heap}
/-! ### _law_name -/
abbrev sLNm : Stmt := topS 34
abbrev nLNm : List Str := ["_law_pot_here", "_law_used", "_law_letters", "_law_name_here", "_law_k", "_law_letter"]
theorem scLNm : FnScope nLNm ["_law_pot_here", "_law_used"] (defScope sLNm) := ⟨rfl, rfl, rfl, by decide +kernel, rfl, by decide +kernel, by decide +kernel⟩
def spLNm : Sp := fun vs H Q _ => ∃ p u zs, vs = [.ref p, .ref u] ∧ Pot H p ∧ u ≠ p ∧ H u = some (.lst (List.map V.str zs)) ∧ zs.length ≤ 13 ∧ ∀ z H', nameT z = true → z ∉ zs → Pot H' p → But p H H' → Q (.str z) H'
theorem ok_lnm {f fT : Addr} {fd fdT : FuncData} (F : Fun K "_law_name" "_law_name" sLNm f fd) (B : Blt mg) (B2 : Blt2 mg) (T : HasTake P w K mg base fT fdT) : FnOk P w K mg base CX0 2 f fd ["_law_pot_here", "_law_used"] spLNm := by
  refine F.ok scLNm (fun vs H Q E h => ?_) (fun cdv Ar outer s H vs Q E hr h => ?_)
  · obtain ⟨_, _, _, rfl, _⟩ := h
    rfl
  · obtain ⟨p, u, zs, rfl, hp, up, hu, hz, q⟩ := h
    refine ⟨_, pss_cons (ps_set (i := 2) scLNm.nd rfl (.inr rfl) pe_str)
      (pss_cons (ps_set (i := 3) scLNm.nd rfl (.inl rfl) (pe_join pe_str
        (pe_lc (own := [("_law_k", 4)]) (g := gName 4) (tt := tYes) rfl scLNm.nd (pi_range1 (by rfl) B2.range (pa_cons (pe_op op_add pe_int (pe_call T.ok hr (by rfl) T.g T.kp T.b .nil pass0 (pa_cons (pv 0) (pa_cons pe_int pa_nil)))) pa_nil))
          (blkOk_by (N := nLNm) (sc := defScope sLNm) (own := [("_law_k", 4)]) (by decide +kernel))
          (fun _ _ _ _ _ => pg_name (i := 4) scLNm.nd rfl (.inl rfl)) (fun _ _ _ _ _ => pts_nil)
          (fun _ _ _ _ _ => pe_ix ix_str (pv 2) (pe_call T.ok hr (by rfl) T.g T.kp T.b .nil pass0 (pa_cons (pv 0) (pa_cons pe_int pa_nil))) (fun _ _ => rfl)))))
      (C8.pss_cut (ps_if (pt_cmpR op_eq (pe_call T.ok hr (by rfl) T.g T.kp T.b .nil pass0 (pa_cons (pv 0) (pa_cons pe_int pa_nil))) pe_int (nomark _))
        (pss_one (ps_set (i := 3) scLNm.nd rfl (.inl rfl) (pe_ix ix_list (pe_lst (pa_cons pe_str (pa_cons pe_str (pa_cons pe_str (pa_cons pe_str (pa_cons pe_str (pa_cons pe_str (pa_cons pe_str (pa_cons pe_str pa_nil)))))))))
          (pe_call T.ok hr (by rfl) T.g T.kp T.b .nil pass0 (pa_cons (pv 0) (pa_cons pe_int pa_nil))) (fun _ _ => rfl)))) pss_nil)
      (pss_cons (ps_if (pt_cmpR op_in_seq (pv 3) (pv 1) (by rfl))
        (pss_one (ps_ret (pe_ix ix_list (pe_lc (own := [("_law_letter", 5)]) (g := gName 5) (tt := tTest (tOp (rIn K true) (tVar 5) (tVar 1))) (te := tVar 5) rfl scLNm.nd (pi_str (pv 2)) (blkOk_by (N := nLNm) (sc := defScope sLNm) (own := [("_law_letter", 5)]) (by decide +kernel))
          (fun _ _ _ _ _ => pg_name (i := 5) scLNm.nd rfl (.inl rfl)) (fun _ _ _ _ _ => pts_one (pt_cmpR op_notIn_seq (pv 5) (pv 1) (by rfl))) (fun _ _ _ _ _ => pv 5)) pe_int (fun _ _ => rfl)))) pss_nil)
      (pss_one (ps_ret (pv 3)))))), ?_⟩
    refine ⟨⟨_, rfl⟩, .ref p, rfl, p, 8, rfl, hp, litM _ (by decide) (by decide), fun d H1 d0 d1 hp1 hb1 => ⟨_, _, rfl, rfl, 1 + d, rfl, by omega, by omega, fun D nD => ?_⟩⟩
    have nDp : D ≠ p := by
      obtain ⟨x, y, e, _⟩ := hp1
      exact (ne_of_none e nD).symm
    refine lc_it walk_range (fun i H' => ∃ cs : List Nat, cs.length = i ∧ (∀ c ∈ cs, c ∈ abc) ∧ H' D = some (.lst (cs.map fun c => .str ⟨#[c]⟩)) ∧ Pot H' p ∧ But p H H')
      ⟨[], rfl, fun c hc => absurd hc List.not_mem_nil, upd_same, hp1.new nD, hb1.trans (But.new nD)⟩ (fun _ _ _ _ => trivial) (fun i x H2 H3 hi hP hY => ?_) (fun H2 hP => ?_)
    · obtain ⟨rfl, rfl⟩ := hY
      obtain ⟨cs, lc, hc, hD, hp2, hb2⟩ := hP
      refine ⟨rfl, .str abcS, rfl, .ref p, rfl, p, 26, rfl, hp2, litM _ (by decide) (by decide), fun e H4 e0 e1 hp4 hb4 => ?_⟩
      have el : abcS.cps.toList.length = 26 := abcS_len
      obtain ⟨c, p1, p2⟩ := pick (xs := abcS.cps.toList) e0 (by rw [el]; exact e1)
      refine ⟨abcS, e, c, rfl, rfl, small_line (by rw [abcS_len]; decide), p1, _, hb4 _ _ nDp hD, ?_, cs ++ [c], by rw [List.length_append, lc]; rfl, fun k hk => ?_, ?_, ?_, fun b o n eb => ?_⟩
      · rw [List.length_map, lc]
        exact small1000 (by omega)
      · rcases List.mem_append.mp hk with z | z
        · exact hc k z
        · rw [List.mem_singleton.mp z, ← abcS_abc]
          exact p2
      · rw [upd_same, List.map_append]
        rfl
      · obtain ⟨x, y, z, r⟩ := hp4
        exact ⟨x, y, by rw [upd_ne nDp.symm]; exact z, r⟩
      · have nb : b ≠ D := ne_of_none (hb1 b o n eb) nD
        rw [upd_ne nb]
        exact hb4 _ _ n (hb2 _ _ n eb)
    · obtain ⟨cs, lc, hc, hD, hp2, hb2⟩ := hP
      have ej := join_ones cs
      have nm : nameT (Txt.join "" (cs.map fun c => (⟨#[c]⟩ : Str))) = true := by
        have el : (Txt.join "" (cs.map fun c => (⟨#[c]⟩ : Str))).length = cs.length := by
          show (Txt.join "" (cs.map fun c => (⟨#[c]⟩ : Str))).cps.size = cs.length
          rw [← Array.length_toList, ej]
        refine nameT_of (by rw [el]; omega) (by rw [el]; omega) (by rw [ej]; exact hc)
      refine ⟨"", D, cs.map fun c => ⟨#[c]⟩, rfl, rfl, .inl (.inl (.inl (by rw [hD, List.map_map]; rfl))), ?_, ?_⟩
      · rw [lens_ones]
        show cs.length + _ * 0 ≤ _
        omega
      generalize Txt.join "" (cs.map fun c => (⟨#[c]⟩ : Str)) = z at nm
      refine ⟨fun σ' H' => ∃ z' y4 y5, σ' = [some (.ref p), some (.ref u), some (.str abcS), some (.str z'), y4, y5] ∧ nameT z' = true ∧ Pot H' p ∧ But p H H', ?_, ?_⟩
      · refine ⟨.ref p, rfl, p, 8, rfl, hp2, litM _ (by decide) (by decide), fun k H3 k0 k1 hp3 hb3 => ⟨rfl, _, rfl, ite2 (fun e => ?_) (fun e => ?_)⟩⟩
        · refine ⟨by show 8 ≤ sizeLine; decide, fun l nl => ?_⟩
          have nlp : l ≠ p := by
            obtain ⟨x, y, e, _⟩ := hp3
            exact (ne_of_none e nl).symm
          refine ⟨.ref p, rfl, p, 8, rfl, hp3.new nl, litM _ (by decide) (by decide), fun e H5 e0 e1 hp5 hb5 => ?_⟩
          obtain ⟨v, p1, p2⟩ := pick (xs := wordsL.map V.str) e0 e1
          refine ⟨l, _, e, v, rfl, rfl, .inl (.inl (hb5 _ _ nlp upd_same)), p1, ?_⟩
          obtain ⟨z', hz', rfl⟩ := List.mem_map.mp p2
          exact ⟨z', _, _, rfl, words_ok z' hz', hp5, hb2.trans (hb3.trans ((But.new nl).trans hb5))⟩
        · exact ⟨z, _, _, rfl, nm, hp3, hb2.trans hb3⟩
      · rintro σ' H' ⟨z', y4, y5, rfl, nm', hp', hb'⟩
        have hu' := hb' _ _ up hu
        refine ⟨.str z', rfl, .ref u, rfl, u, _, rfl, .inl (.inl (.inl hu')), rfl, flat_strs _, _, rfl, ?_⟩
        show if inV (.str z') (zs.map V.str) = true then _ else _
        rw [inV_strs]
        refine ite2 (fun e => ?_) (fun e => ?_)
        · refine ⟨.str abcS, rfl, abcS, rfl, fun D' nD' => ?_⟩
          refine lc_it walk_str (fun i H'' => Same H' H'' ∧ H'' D' = some (.lst (((abc.take i).filter fun c => !decide (oneS c ∈ zs)).map fun c => .str (oneS c)))) ⟨same_upd nD', upd_same⟩ (fun _ _ _ _ => trivial) (fun i x H3' H3 hi hP hY => ?_) (fun H3 hP => ?_)
          · obtain ⟨rfl, c, hc', rfl⟩ := hY
            have hc2 : abc[i]? = some c := by
              rw [← abcS_abc, Array.getElem?_toList]
              exact hc'
            refine ⟨rfl, _, rfl, .ref u, rfl, u, _, rfl, .inl (.inl (.inl (hP.1 _ _ hu'))), rfl, flat_strs _, _, rfl, ?_⟩
            have tk : abc.take (i + 1) = abc.take i ++ [c] := by
              rw [List.take_add_one, hc2]
              rfl
            show if (!inV (.str (oneS c)) (zs.map V.str)) = true then _ else _
            rw [inV_strs]
            refine ite2 (fun e' => ?_) (fun e' => ?_)
            · refine ⟨_, rfl, _, hP.2, ?_, fun b o eb => ?_, ?_⟩
              · rw [List.length_map]
                have h1 := List.length_filter_le (fun c => !decide (oneS c ∈ zs)) (abc.take i)
                have h2 : (abc.take i).length ≤ 26 := by
                  rw [List.length_take]
                  exact Nat.min_le_right _ _
                exact small1000 (by omega)
              · rw [upd_ne (ne_of_none eb nD')]
                exact hP.1 b o eb
              · rw [upd_same, tk, List.filter_append, List.map_append]
                simp only [List.filter_cons, e', if_true, List.filter_nil, List.map_cons, List.map_nil]
                rfl
            · refine ⟨hP.1, ?_⟩
              rw [hP.2, tk, List.filter_append]
              simp only [List.filter_cons, e', List.filter_nil, Bool.false_eq_true, if_false, List.append_nil]
          · have esz : abc.take abcS.cps.size = abc := List.take_of_length_le (by decide +kernel)
            rw [esz] at hP
            have ne := free_letter hz
            cases hl : (abc.filter fun c => !decide (oneS c ∈ zs)) with
            | nil => exact absurd hl ne
            | cons c r =>
              have hm : c ∈ abc.filter fun c => !decide (oneS c ∈ zs) := by
                rw [hl]
                exact List.mem_cons_self
              obtain ⟨m1, m2⟩ := List.mem_filter.mp hm
              rw [hl] at hP
              refine ⟨D', _, 0, .str (oneS c), rfl, rfl, .inl (.inl hP.2), atI_nat (j := 0) rfl, ?_⟩
              exact q _ _ (oneS_name m1) (by simpa using m2) (hp'.same hP.1) (hb'.trans (same_but hP.1))
        · exact ⟨_, rfl, q z' H' nm' (fun c => e (decide_eq_true c)) hp' hb'⟩
end
end Rc

namespace Rc
open PySem PySem.Spec PyProof.Rows L2 RZ
section
variable {P : Program} {w : World} {K : PySem.W.Frag} {mg : Str → Option Value} {base : Heap}
/-! ### _law_names -/
abbrev sLNms : Stmt := topS 35
theorem scLNms : FnScope ["_law_pot_here", "_law_many", "_law_found", "_law_k"] ["_law_pot_here", "_law_many"] (defScope sLNms) := ⟨rfl, rfl, rfl, by decide +kernel, rfl, by decide +kernel, by decide +kernel⟩
def spLNms : Sp := fun vs H Q _ => ∃ (p : Addr) (m : Nat), vs = [.ref p, .int (m : Nat)] ∧ Pot H p ∧ m ≤ 13 ∧ ∀ r zs H', H r = none → r ≠ p → H' r = some (.lst (List.map V.str zs)) → zs.length = m → zs.Nodup → (∀ z ∈ zs, nameT z = true) → Pot H' p → But p H H' → Q (.ref r) H'
theorem ok_lnms {f fN : Addr} {fd fdN : FuncData} (F : Fun K "_law_names" "_law_names" sLNms f fd) (B2 : Blt2 mg) (N : Has P w K mg base 2 "_law_name" ["_law_pot_here", "_law_used"] spLNm fN fdN) :
    FnOk P w K mg base CX0 3 f fd ["_law_pot_here", "_law_many"] spLNms := by
  refine F.ok scLNms (fun vs H Q E h => ?_) (fun cdv Ar outer s H vs Q E hr h => ?_)
  · obtain ⟨_, _, rfl, _⟩ := h
    rfl
  · obtain ⟨p, m, rfl, hp, hm, q⟩ := h
    refine ⟨_, pss_cons (ps_set (i := 2) scLNms.nd rfl (.inl rfl) (pe_lst pa_nil))
      (pss_cons (ps_for PassesOwn.never rfl (pi_range1 (by rfl) B2.range (pa_cons (pv 1) pa_nil)) (pg_name (i := 3) scLNms.nd rfl (.inl rfl))
        (pss_one (ps_expr (pe_bm PySem.F.plainAttrs_list PySem.F.slot_list_append PySem.F.type_list_append mt_append (pv 2) (pa_cons (pe_call N.ok hr (by rfl) N.g N.kp N.b .nil pass0 (pa_cons (pv 0) (pa_cons (pv 2) pa_nil))) pa_nil)))))
      (pss_one (ps_ret (pv 2)))), ?_⟩
    refine ⟨Nat.zero_le _, fun r nr => ?_⟩
    have rp : r ≠ p := by
      obtain ⟨x, y, e, _⟩ := hp
      exact (ne_of_none e nr).symm
    refine ⟨_, rfl, _, rfl, by omega, by omega, ?_⟩
    refine for_it walk_range (fun i σ H' => ∃ zs y3, σ = [some (.ref p), some (.int (m : Nat)), some (.ref r), y3] ∧ H' r = some (.lst (List.map V.str zs)) ∧ zs.length = i ∧ zs.Nodup ∧ (∀ z ∈ zs, nameT z = true) ∧ Pot H' p ∧ But p H H')
      ⟨[], _, rfl, upd_same, rfl, List.nodup_nil, fun z hz => absurd hz List.not_mem_nil, hp.new nr, But.new nr⟩ (fun _ _ _ _ _ => trivial) (fun i x σ H1' H1 hi hP hY => ?_) (fun σ H1 hP => ?_)
    · obtain ⟨rfl, rfl⟩ := hY
      obtain ⟨zs, y3, rfl, hr1, lz, nd, nm, hp1, hb1⟩ := hP
      have hi' : i < m := by simpa using hi
      refine ⟨.ref r, rfl, .inl ⟨rfl, _, .inl (.inl hr1)⟩, .ref p, rfl, .ref r, rfl, p, r, zs, rfl, hp1, rp, hr1, by omega, fun z H2 nz nin hp2 hb2 => ?_⟩
      refine ⟨r, _, _, rfl, rfl, hb2 _ _ rp hr1, by rw [List.length_map]; exact small1000 (by omega), ?_⟩
      refine ⟨zs ++ [z], _, rfl, by rw [upd_same, List.map_append]; rfl, by rw [List.length_append, lz]; rfl, ?_, fun y hy => ?_, ?_, fun b o n e => ?_⟩
      · rw [List.nodup_append]
        refine ⟨nd, by simp, fun a ha b hb e => ?_⟩
        rw [List.mem_singleton.mp hb] at e
        exact nin (e ▸ ha)
      · rcases List.mem_append.mp hy with h | h
        · exact nm y h
        · rw [List.mem_singleton.mp h]
          exact nz
      · obtain ⟨x, y, e, rr⟩ := hp2
        exact ⟨x, y, by rw [upd_ne rp.symm]; exact e, rr⟩
      · rw [upd_ne (ne_of_none e nr)]
        exact hb2 _ _ n (hb1 _ _ n e)
    · obtain ⟨zs, y3, rfl, hr1, lz, nd, nm, hp1, hb1⟩ := hP
      exact ⟨.ref r, rfl, q r zs H1 nr rp hr1 (by simpa using lz) nd nm hp1 hb1⟩
end
end Rc

namespace Rc
open PySem PySem.Spec PyProof.Rows L2 RZ
section
variable {P : Program} {w : World} {K : PySem.W.Frag} {mg : Str → Option Value} {base : Heap}
/-! ### _law_amount -/
abbrev sLAm : Stmt := topS 37
theorem scLAm : FnScope ["_law_pot_here", "_law_size", "_law_kind"] ["_law_pot_here", "_law_size"] (defScope sLAm) := ⟨rfl, rfl, rfl, by decide +kernel, rfl, by decide +kernel, by decide +kernel⟩
def Amt (n : Int) : Prop := 1 ≤ n ∧ n ≤ 10 ^ 58
def spLAm : Sp := fun vs H Q _ => ∃ (p : Addr) (s : Int), vs = [.ref p, .int s] ∧ (s = 0 ∨ s = 1) ∧ Pot H p ∧ ∀ n H', Amt n → Pot H' p → But p H H' → Q (.int n) H'
theorem ok_lam {f fT : Addr} {fd fdT : FuncData} (F : Fun K "_law_amount" "_law_amount" sLAm f fd) (T : HasTake P w K mg base fT fdT) : FnOk P w K mg base CX0 2 f fd ["_law_pot_here", "_law_size"] spLAm := by
  refine F.ok scLAm (fun vs H Q E h => ?_) (fun cdv Ar outer s H vs Q E hr h => ?_)
  · obtain ⟨_, _, rfl, _⟩ := h
    rfl
  · obtain ⟨p, sz, rfl, hsz, hp, q⟩ := h
    refine ⟨_, pss_cons (ps_set (i := 2) scLAm.nd rfl (.inl rfl) (pe_call T.ok hr (by rfl) T.g T.kp T.b .nil pass0 (pa_cons (pv 0) (pa_cons pe_int pa_nil))))
      (pss_one (ps_ret (pe_op op_add pe_int (pe_call T.ok hr (by rfl) T.g T.kp T.b .nil pass0 (pa_cons (pv 0) (pa_cons
        (pe_ix ix_list (pe_ix ix_list (pe_lst (pa_cons (pe_lst (pa_cons pe_int (pa_cons pe_int (pa_cons pe_int (pa_cons pe_int pa_nil))))) (pa_cons (pe_lst (pa_cons pe_int (pa_cons pe_int (pa_cons pe_int (pa_cons (pe_op op_pow pe_int pe_int) pa_nil))))) pa_nil))) (pv 1) (fun _ _ => rfl)) (pv 2) (fun _ _ => rfl)) pa_nil)))))), ?_⟩
    refine ⟨.ref p, rfl, p, 4, rfl, hp, litM _ (by decide) (by decide), fun d H1 d0 d1 hp1 hb1 => ?_⟩
    refine ⟨.ref p, rfl, by show 4 ≤ sizeLine; decide, fun l1 n1 => ⟨_, _, rfl, rfl, ⟨by decide, by decide, by decide⟩, by show 4 ≤ sizeLine; decide, fun l2 n2 => ⟨by show 2 ≤ sizeLine; decide, fun l3 n3 => ?_⟩⟩⟩
    have s3 := (same_upd (o := .lst [V.int 1, V.int 3, V.int 9, V.int 9]) n1).trans ((same_upd (o := .lst [V.int 1, V.int 9, V.int 1000, V.int (10 ^ (58 : Int).toNat)]) n2).trans (same_upd (o := .lst [V.ref l1, V.ref l2]) n3))
    have fin : ∀ m : Int, 0 < m → m ≤ 10 ^ 58 → ∃ (p' : Addr) (m' : Int), [V.ref p, V.int m] = [.ref p', .int m'] ∧ Pot (upd (upd (upd H1 l1 (.lst [V.int 1, V.int 3, V.int 9, V.int 9])) l2 (.lst [V.int 1, V.int 9, V.int 1000, V.int (10 ^ (58 : Int).toNat)])) l3 (.lst [V.ref l1, V.ref l2])) p' ∧ LitM m' ∧
        ∀ t H4, 0 ≤ t → t < m' → Pot H4 p' → But p' (upd (upd (upd H1 l1 (.lst [V.int 1, V.int 3, V.int 9, V.int 9])) l2 (.lst [V.int 1, V.int 9, V.int 1000, V.int (10 ^ (58 : Int).toNat)])) l3 (.lst [V.ref l1, V.ref l2])) H4 → ∃ x y : Int, V.int 1 = .int x ∧ V.int t = .int y ∧ Q (.int (x + y)) H4 := fun m m0 m1 => by
      have m2 : (10 : Int) ^ 58 < 2 ^ 250 := by decide
      exact ⟨p, m, rfl, hp1.same s3, litM _ m0 (by omega), fun t H4 t0 t1 hp4 hb4 => ⟨1, t, rfl, rfl, q _ _ ⟨by omega, by omega⟩ hp4 (hb1.trans ((same_but s3).trans hb4))⟩⟩
    rcases hsz with rfl | rfl
    · obtain ⟨c, e1, e2⟩ := pick (xs := [V.int 1, V.int 3, V.int 9, V.int 9]) d0 d1
      refine ⟨.int 0, rfl, l3, _, 0, .ref l1, rfl, rfl, .inl (.inl upd_same), rfl, .int d, rfl, l1, _, d, c, rfl, rfl, .inl (.inl (same_upd n3 _ _ (same_upd n2 _ _ upd_same))), e1, ?_⟩
      have ec : ∃ m : Int, c = .int m ∧ 0 < m ∧ m ≤ 10 ^ 58 := by
        simp only [List.mem_cons, List.not_mem_nil, or_false] at e2
        rcases e2 with e | e | e | e <;> exact ⟨_, e, by decide, by decide⟩
      obtain ⟨m, rfl, m0, m1⟩ := ec
      exact fin m m0 m1
    · obtain ⟨c, e1, e2⟩ := pick (xs := [V.int 1, V.int 9, V.int 1000, V.int (10 ^ (58 : Int).toNat)]) d0 d1
      refine ⟨.int 1, rfl, l3, _, 1, .ref l2, rfl, rfl, .inl (.inl upd_same), rfl, .int d, rfl, l2, _, d, c, rfl, rfl, .inl (.inl (same_upd n3 _ _ upd_same)), e1, ?_⟩
      have ec : ∃ m : Int, c = .int m ∧ 0 < m ∧ m ≤ 10 ^ 58 := by
        simp only [List.mem_cons, List.not_mem_nil, or_false] at e2
        rcases e2 with e | e | e | e <;> exact ⟨_, e, by decide, by decide⟩
      obtain ⟨m, rfl, m0, m1⟩ := ec
      exact fin m m0 m1
end
end Rc

namespace Rc
open PySem PySem.Spec PyProof.Rows L2 RZ
/-! ### dicts by names -/
def dct (zs : List Str) (vs : List V) : List (Key × V) := (zs.zip vs).map fun p => (Sum.inr p.1, p.2)
theorem dct_cons (z : Str) (zs : List Str) (v : V) (vs : List V) : dct (z :: zs) (v :: vs) = (Sum.inr z, v) :: dct zs vs := rfl
theorem dct_mem {zs : List Str} {vs : List V} {kv : Key × V} (h : kv ∈ dct zs vs) : ∃ z ∈ zs, kv.1 = Sum.inr z := by
  unfold dct at h
  obtain ⟨p, hp, rfl⟩ := List.mem_map.mp h
  exact ⟨p.1, (List.of_mem_zip hp).1, rfl⟩
theorem dct_val : ∀ {zs : List Str} {vs : List V} {j : Nat} {z : Str} {v : V}, zs.Nodup → zs[j]? = some z → vs[j]? = some v → valV (dct zs vs) (Sum.inr z : Key) = some v
  | [], _, _, _, _, _, h, _ => by simp at h
  | _ :: _, [], _, _, _, _, _, h => by simp at h
  | y :: zs, u :: vs, 0, z, v, nd, h1, h2 => by
    simp at h1 h2
    subst h1 h2
    rw [dct_cons]
    exact valV_pos rfl
  | y :: zs, u :: vs, j + 1, z, v, nd, h1, h2 => by
    have hn := List.nodup_cons.mp nd
    have h1' : zs[j]? = some z := by simpa using h1
    rw [dct_cons, valV_neg (fun e => hn.1 (by
      have e' : y = z := Sum.inr.inj e
      rw [e']
      exact List.mem_of_getElem? h1'))]
    exact dct_val hn.2 h1' (by simpa using h2)
theorem dct_nokey {zs : List Str} {vs : List V} {z : Str} (h : z ∉ zs) : ∀ kv ∈ dct zs vs, ¬ kv.1 = (Sum.inr z : Key) := fun kv hk e => by
  obtain ⟨y, hy, e'⟩ := dct_mem hk
  rw [e'] at e
  exact h (Sum.inr.inj e ▸ hy)
theorem map_nokey {kvs : List (Key × V)} {k : Key} {v : V} (h : ∀ kv ∈ kvs, ¬ kv.1 = k) : kvs.map (fun kv => if kv.1 = k then (kv.1, v) else kv) = kvs := by
  induction kvs with
  | nil => rfl
  | cons a r ih =>
    rw [List.map_cons, if_neg (h a List.mem_cons_self), ih fun kv hk => h kv (List.mem_cons_of_mem _ hk)]
theorem dct_map : ∀ {zs : List Str} {vs : List V} {j : Nat} {z : Str} {v : V}, zs.Nodup → zs[j]? = some z → (dct zs vs).map (fun kv => if kv.1 = (Sum.inr z : Key) then (kv.1, v) else kv) = dct zs (vs.set j v)
  | [], _, _, _, _, _, h => by simp at h
  | y :: zs, [], _, _, _, _, _ => by simp [dct]
  | y :: zs, u :: vs, 0, z, v, nd, h1 => by
    simp at h1
    subst h1
    have hn := List.nodup_cons.mp nd
    rw [List.set_cons_zero, dct_cons, dct_cons, List.map_cons, if_pos rfl, map_nokey (dct_nokey hn.1)]
  | y :: zs, u :: vs, j + 1, z, v, nd, h1 => by
    have hn := List.nodup_cons.mp nd
    have h1' : zs[j]? = some z := by simpa using h1
    have ne : ¬ (Sum.inr y : Key) = Sum.inr z := fun e => hn.1 (by
      have e' : y = z := Sum.inr.inj e
      rw [e']
      exact List.mem_of_getElem? h1')
    rw [List.set_cons_succ, dct_cons, dct_cons, List.map_cons, if_neg ne, dct_map hn.2 h1']
theorem dct_put {zs : List Str} {vs : List V} {j : Nat} {z : Str} {v : V} (nd : zs.Nodup) (h1 : zs[j]? = some z) (h2 : j < vs.length) : putK (dct zs vs) (Sum.inr z) v = dct zs (vs.set j v) := by
  unfold putK
  have hv := dct_val nd h1 (List.getElem?_eq_getElem h2)
  rw [valV_any, hv, if_pos (show (some vs[j]).isSome = true from rfl)]
  exact dct_map nd h1
theorem put_new {kvs : List (Key × V)} {k : Key} {v : V} (h : ∀ kv ∈ kvs, ¬ kv.1 = k) : putK kvs k v = kvs ++ [(k, v)] := by
  unfold putK
  rw [if_neg]
  rw [List.any_eq_true]
  rintro ⟨kv, hk, e⟩
  exact h kv hk (of_decide_eq_true e)
theorem merge_dct : ∀ (zs : List Str) (vs : List V) (acc : List (Key × V)), zs.Nodup → (∀ kv ∈ acc, ∀ z ∈ zs, ¬ kv.1 = (Sum.inr z : Key)) → mergeK acc (dct zs vs) = acc ++ dct zs vs
  | [], _, acc, _, _ => by simp [dct, mergeK]
  | _ :: _, [], acc, _, _ => by simp [dct, mergeK]
  | z :: zs, v :: vs, acc, nd, h => by
    have hn := List.nodup_cons.mp nd
    rw [dct_cons]
    show mergeK (putK acc (Sum.inr z) v) (dct zs vs) = acc ++ (Sum.inr z, v) :: dct zs vs
    rw [put_new fun kv hk => h kv hk z List.mem_cons_self, merge_dct zs vs _ hn.2 fun kv hk y hy => ?_]
    · rw [List.append_assoc]
      rfl
    · rcases List.mem_append.mp hk with hk | hk
      · exact h kv hk y (List.mem_cons_of_mem _ hy)
      · rw [List.mem_singleton.mp hk]
        intro e
        exact hn.1 (Sum.inr.inj e ▸ hy)
theorem merge_new {zs : List Str} {vs : List V} (nd : zs.Nodup) : mergeK [] (dct zs vs) = dct zs vs := by
  rw [merge_dct zs vs [] nd fun kv hk => absurd hk List.not_mem_nil]
  rfl
theorem dct_len {zs : List Str} {vs : List V} (h : vs.length = zs.length) : (dct zs vs).length = zs.length := by
  unfold dct
  rw [List.length_map, List.length_zip, h, Nat.min_self]
/-! ### the law's model -/
structure MdA where
  m : Addr
  lo : Addr
  dg : Addr
  df : Addr
  dn : Addr
  rs : List Addr
structure Md where
  given : List Int
  fallen : List Int
  notes : List (List (Str × Int))
def MdA.Has (a : MdA) (b : Addr) : Prop := b = a.m ∨ b = a.lo ∨ b = a.dg ∨ b = a.df ∨ b = a.dn ∨ b ∈ a.rs
def keysM : List Str := ["order", "given", "fallen", "notes"]
theorem keysM_nd : keysM.Nodup := by decide +kernel
def MdA.main (a : MdA) : List (Key × V) := dct keysM [.ref a.lo, .ref a.dg, .ref a.df, .ref a.dn]
structure ModelAt (K : PySem.W.Frag) (H : Hp) (zs : List Str) (a : MdA) (D : Md) : Prop where
  hm : H a.m = some (.dK a.main)
  ho : H a.lo = some (.lst (zs.map V.str))
  hg : H a.dg = some (.dK (dct zs (D.given.map V.int)))
  hf : H a.df = some (.dK (dct zs (D.fallen.map V.int)))
  hn : H a.dn = some (.dK (dct zs (a.rs.map V.ref)))
  rows : ∀ (i : Nat) (r : Addr) (l : List (Str × Int)), a.rs[i]? = some r → D.notes[i]? = some l → ∃ xs, H r = some (.lst xs) ∧ DtAll K H xs (notesD l)
  nd : a.rs.Nodup
  olo : a.lo ∉ a.rs
  ogf : a.dg ≠ a.df
  ogn : a.dg ≠ a.dn
  ogm : a.dg ≠ a.m
  omn : a.m ≠ a.dn
  zn : zs.Nodup
  lg : D.given.length = zs.length
  lf : D.fallen.length = zs.length
  ln : D.notes.length = zs.length
  lr : a.rs.length = zs.length
theorem ModelAt.keep {K : PySem.W.Frag} {H H' : Hp} {zs : List Str} {a : MdA} {D : Md} (h : ModelAt K H zs a D) (k : ∀ b o, a.Has b → H b = some o → H' b = some o) (kt : KT H H') : ModelAt K H' zs a D where
  hm := k _ _ (.inl rfl) h.hm
  ho := k _ _ (.inr (.inl rfl)) h.ho
  hg := k _ _ (.inr (.inr (.inl rfl))) h.hg
  hf := k _ _ (.inr (.inr (.inr (.inl rfl)))) h.hf
  hn := k _ _ (.inr (.inr (.inr (.inr (.inl rfl))))) h.hn
  rows := fun i r l e1 e2 => by
    obtain ⟨xs, e, d⟩ := h.rows i r l e1 e2
    exact ⟨xs, k _ _ (.inr (.inr (.inr (.inr (.inr (List.mem_of_getElem? e1)))))) e, DtAll.keepT kt _ (tup_notes l) d⟩
  nd := h.nd
  olo := h.olo
  ogf := h.ogf
  ogn := h.ogn
  ogm := h.ogm
  omn := h.omn
  zn := h.zn
  lg := h.lg
  lf := h.lf
  ln := h.ln
  lr := h.lr
theorem model_same {K : PySem.W.Frag} {H H' : Hp} {zs : List Str} {a : MdA} {D : Md} (h : ModelAt K H zs a D) (s : Same H H') : ModelAt K H' zs a D := h.keep (fun b o _ e => s b o e) (kt_same s)
theorem But.kt {p : Addr} {H H' : Hp} (b : But p H H') (hp : Pot H p) : KT H H' := fun c o e t => b c o (fun z => by
  obtain ⟨x, y, e', _⟩ := hp
  rw [z, e'] at e
  cases e
  exact t) e
theorem model_but {K : PySem.W.Frag} {H H' : Hp} {zs : List Str} {a : MdA} {D : Md} {p : Addr} (h : ModelAt K H zs a D) (b : But p H H') (hp : Pot H p) (n : ¬ a.Has p) : ModelAt K H' zs a D :=
  h.keep (fun c o hc e => b c o (fun z => n (z ▸ hc)) e) (b.kt hp)
def zeros (n : Nat) : List Int := List.replicate n 0
def newMd (n : Nat) : Md := ⟨zeros n, zeros n, List.replicate n []⟩
/-- pairs that a comprehension makes -/
def PairsAt (K : PySem.W.Frag) (H : Hp) (ps : List Addr) (kvs : List (Key × V)) : Prop := Paired (fun p kv => SqT K H p [kV kv.1, kv.2]) ps kvs
theorem Paired.snoc {α β : Type} {R : α → β → Prop} : ∀ {l : List α} {m : List β} {a : α} {b : β}, Paired R l m → R a b → Paired R (l ++ [a]) (m ++ [b])
  | _, _, _, _, .nil, h => .cons h .nil
  | _, _, _, _, .cons r t, h => .cons r (Paired.snoc t h)
theorem pairs_kt {K : PySem.W.Frag} {H H' : Hp} (k : KT H H') : ∀ {ps : List Addr} {kvs : List (Key × V)}, PairsAt K H ps kvs → PairsAt K H' ps kvs
  | _, _, .nil => .nil
  | _, _, .cons r t => .cons (by
      rcases r with (r | ⟨o, r⟩) | r
      · exact .inl (.inl (k _ _ r trivial))
      · exact .inl (.inr ⟨o, k _ _ r trivial⟩)
      · exact .inr r) (pairs_kt k t)
theorem dct_snoc {zs : List Str} {vs : List V} {z : Str} {v : V} (h : vs.length = zs.length) : dct (zs ++ [z]) (vs ++ [v]) = dct zs vs ++ [(Sum.inr z, v)] := by
  unfold dct
  rw [List.zip_append h.symm, List.map_append]
  rfl
theorem take_succ {α : Type} {l : List α} {i : Nat} (h : i < l.length) : l.take (i + 1) = l.take i ++ [l[i]] := by
  rw [List.take_add_one, List.getElem?_eq_getElem h]
  rfl
theorem pairs_step {K : PySem.W.Frag} {H0 H' : Hp} {D t : Addr} {ps : List Addr} {zs : List Str} {vs : List V} {z : Str} {v : V} (nD : H0 D = none) (s : Same H0 H') (hD : H' D = some (.lst (ps.map V.ref))) (hp : PairsAt K H' ps (dct zs vs)) (l : vs.length = zs.length) (nt : H' t = none) :
    Same H0 (upd (upd H' t (.tup [.str z, v])) D (.lst (ps.map V.ref ++ [.ref t]))) ∧ upd (upd H' t (.tup [.str z, v])) D (.lst (ps.map V.ref ++ [.ref t])) D = some (.lst ((ps ++ [t]).map V.ref)) ∧
      PairsAt K (upd (upd H' t (.tup [.str z, v])) D (.lst (ps.map V.ref ++ [.ref t]))) (ps ++ [t]) (dct (zs ++ [z]) (vs ++ [v])) ∧ KT H' (upd (upd H' t (.tup [.str z, v])) D (.lst (ps.map V.ref ++ [.ref t]))) := by
  have tD : t ≠ D := (ne_of_none hD nt).symm
  have kt : KT H' (upd (upd H' t (.tup [.str z, v])) D (.lst (ps.map V.ref ++ [.ref t]))) := (kt_same (same_upd nt)).trans (kt_upd (o := .lst (ps.map V.ref)) (by rw [upd_ne tD.symm]; exact hD) fun z => z)
  refine ⟨fun b o e => ?_, by rw [upd_same, List.map_append]; rfl, ?_, kt⟩
  · rw [upd_ne (ne_of_none e nD), upd_ne (ne_of_none (s b o e) nt)]
    exact s b o e
  · rw [dct_snoc l]
    refine Paired.snoc (pairs_kt kt hp) (.inl (.inl ?_))
    rw [upd_ne tD, upd_same]
    rfl
theorem Paired.len {α β : Type} {R : α → β → Prop} : ∀ {l : List α} {m : List β}, Paired R l m → l.length = m.length
  | _, _, .nil => rfl
  | _, _, .cons _ t => by rw [List.length_cons, List.length_cons, Paired.len t]
section
variable {P : Program} {w : World} {K : PySem.W.Frag} {mg : Str → Option Value} {base : Heap}
abbrev sLMd : Stmt := topS 38
abbrev nLMd : List Str := ["_law_names_here", "_law_name_here"]
theorem scLMd : FnScope nLMd ["_law_names_here"] (defScope sLMd) := ⟨rfl, rfl, rfl, by decide +kernel, rfl, by decide +kernel, by decide +kernel⟩
def spLMd (K : PySem.W.Frag) : Sp := fun vs H Q _ => ∃ (nl : Addr) (zs : List Str), vs = [.ref nl] ∧ H nl = some (.lst (zs.map V.str)) ∧ zs.Nodup ∧ zs.length ≤ 13 ∧ ∀ a H', Same H H' → (∀ b, MdA.Has a b → H b = none) → ModelAt K H' zs a (newMd zs.length) → Q (.ref a.m) H'
theorem ok_lmd {f : Addr} {fd : FuncData} (F : Fun K "_law_model" "_law_model" sLMd f fd) (B3 : Blt3 mg) : FnOk P w K mg base CX0 1 f fd ["_law_names_here"] (spLMd K) := by
  refine F.ok scLMd (fun vs H Q E h => ?_) (fun cdv Ar outer s H vs Q E hr h => ?_)
  · obtain ⟨_, _, rfl, _⟩ := h
    rfl
  · obtain ⟨nl, zs, rfl, hn, nd, lz, q⟩ := h
    refine ⟨_, pss_one (ps_ret (pe_disp (pps_cons pe_str (pe_callTy call_list_of (by rfl) B3.list (by decide +kernel) (pa_cons (pv 0) pa_nil))
      (pps_cons pe_str (pe_callTy (call_dictP rfl) (by rfl) B3.dict (by decide +kernel) (pa_cons (pe_lc (own := [("_law_name_here", 1)]) (g := gName 1) (tt := tYes) rfl scLMd.nd (pi_list (pv 0)) (blkOk_by (N := nLMd) (sc := defScope sLMd) (own := [("_law_name_here", 1)]) (by decide +kernel))
          (fun _ _ _ _ _ => pg_name (i := 1) scLMd.nd rfl (.inl rfl) (hf := .inr rfl)) (fun _ _ _ _ _ => pts_nil) (fun _ _ _ _ _ => pe_tup (pa_cons (pv 1) (pa_cons pe_int pa_nil)))) pa_nil))
      (pps_cons pe_str (pe_callTy (call_dictP rfl) (by rfl) B3.dict (by decide +kernel) (pa_cons (pe_lc (own := [("_law_name_here", 1)]) (g := gName 1) (tt := tYes) rfl scLMd.nd (pi_list (pv 0)) (blkOk_by (N := nLMd) (sc := defScope sLMd) (own := [("_law_name_here", 1)]) (by decide +kernel))
          (fun _ _ _ _ _ => pg_name (i := 1) scLMd.nd rfl (.inl rfl) (hf := .inr rfl)) (fun _ _ _ _ _ => pts_nil) (fun _ _ _ _ _ => pe_tup (pa_cons (pv 1) (pa_cons pe_int pa_nil)))) pa_nil))
      (pps_cons pe_str (pe_callTy (call_dictP rfl) (by rfl) B3.dict (by decide +kernel) (pa_cons (pe_lc (own := [("_law_name_here", 1)]) (g := gName 1) (tt := tYes) rfl scLMd.nd (pi_list (pv 0)) (blkOk_by (N := nLMd) (sc := defScope sLMd) (own := [("_law_name_here", 1)]) (by decide +kernel))
          (fun _ _ _ _ _ => pg_name (i := 1) scLMd.nd rfl (.inl rfl) (hf := .inr rfl)) (fun _ _ _ _ _ => pts_nil) (fun _ _ _ _ _ => pe_tup (pa_cons (pv 1) (pa_cons (pe_lst pa_nil) pa_nil)))) pa_nil)) pps_nil)))) (by rfl) (by rfl) (fun z => by cases z) (by show 4 ≤ 15; decide))), ?_⟩
    intro m nm
    have s1 := same_upd (o := .dK []) nm
    have sq : SqL K H nl (zs.map V.str) := .inl (.inl hn)
    refine ⟨.ref nl, rfl, nl, _, rfl, .inl (s1.seq sq), fun lo nlo => ?_⟩
    have s2 := s1.trans (same_upd (o := .lst (zs.map V.str)) nlo)
    generalize hH2 : upd (upd H m (.dK [])) lo (.lst (zs.map V.str)) = H2 at s2
    have hm2 : H2 m = some (.dK []) := by
      rw [← hH2, upd_ne (by intro e; rw [← e, upd_same] at nlo; cases nlo), upd_same]
    have hl2 : H2 lo = some (.lst (zs.map V.str)) := by
      rw [← hH2, upd_same]
    have nloH : H lo = none := s1.free nlo
    have step0 : ∀ (H0 H' : Hp) (D : Addr) (ps : List Addr) (i : Nat) (hi : i < zs.length), H0 D = none → Same H0 H' → H' D = some (.lst (ps.map V.ref)) → PairsAt K H' ps (dct (zs.take i) ((zeros i).map V.int)) → ∀ t, H' t = none →
        Same H0 (upd (upd H' t (.tup [.str zs[i], .int 0])) D (.lst (ps.map V.ref ++ [.ref t]))) ∧ ∃ ps', upd (upd H' t (.tup [.str zs[i], .int 0])) D (.lst (ps.map V.ref ++ [.ref t])) D = some (.lst (List.map V.ref ps')) ∧
          PairsAt K (upd (upd H' t (.tup [.str zs[i], .int 0])) D (.lst (ps.map V.ref ++ [.ref t]))) ps' (dct (zs.take (i + 1)) ((zeros (i + 1)).map V.int)) := fun H0 H' D ps i hi nD sm hD hp t nt => by
      obtain ⟨a1, a2, a3, _⟩ := pairs_step (z := zs[i]) (v := .int 0) nD sm hD hp (by unfold zeros; rw [List.length_map, List.length_replicate, List.length_take]; omega) nt
      refine ⟨a1, ps ++ [t], a2, ?_⟩
      rw [take_succ hi, show (zeros (i + 1)).map V.int = (zeros i).map V.int ++ [.int 0] by unfold zeros; rw [List.replicate_succ', List.map_append]; rfl]
      exact a3
    have full : zs.take zs.length = zs := List.take_length
    have lenz : (zs.map V.str).length = zs.length := List.length_map ..
    have smallP : ∀ {H' : Hp} {ps : List Addr} {i : Nat} {vs : List V}, i < zs.length → vs.length = i → PairsAt K H' ps (dct (zs.take i) vs) → (ps.map V.ref).length < sizeLine := fun {H' ps i vs} hi hv hp => by
      rw [List.length_map, Paired.len hp]
      unfold dct
      rw [List.length_map, List.length_zip]
      exact small1000 (by omega)
    have lenZ : ∀ i, ((zeros i).map V.int).length = i := fun i => by
      unfold zeros
      rw [List.length_map, List.length_replicate]
    have strAt : ∀ {i : Nat} {x : V} (hi : i < zs.length), (zs.map V.str)[i]? = some x → x = .str zs[i] := fun {i x} hi e => by
      rw [List.getElem?_map, List.getElem?_eq_getElem hi] at e
      exact (Option.some.inj e).symm
    -- 'given'
    refine ⟨.ref nl, rfl, nl, rfl, ⟨_, s2.seq sq⟩, fun D1 nD1 => ?_⟩
    refine lc_it (walk_list (K := K) (a := nl) (xs := zs.map V.str)) (fun i H' => Same H2 H' ∧ ∃ ps, H' D1 = some (.lst (List.map V.ref ps)) ∧ PairsAt K H' ps (dct (zs.take i) ((zeros i).map V.int))) ⟨same_upd nD1, [], upd_same, .nil⟩ (fun i H' _ hP => hP.1.seq (s2.seq sq))
      (fun i x H3' H3 hi hP hY => ?_) (fun H3 hP => ?_)
    · obtain ⟨rfl, hx⟩ := hY
      rw [lenz] at hi
      obtain ⟨sm, ps, hD, hp⟩ := hP
      cases strAt hi hx
      refine ⟨rfl, _, rfl, by show 2 ≤ sizeLine; decide, fun t nt => ⟨_, by rw [upd_ne (ne_of_none hD nt)]; exact hD, smallP hi (lenZ i) hp, ?_⟩⟩
      exact step0 H2 H3 D1 ps i hi nD1 sm hD hp t nt
    obtain ⟨s3, ps1, hD1, hp1⟩ := hP
    rw [lenz, full] at hp1
    refine ⟨D1, ps1, _, rfl, .inl (.inl hD1), hp1, fun dg ndg => ?_⟩
    rw [merge_new nd]
    have s4 := s3.trans (same_upd (o := .dK (dct zs ((zeros zs.length).map V.int))) ndg)
    generalize hH4 : upd H3 dg (.dK (dct zs ((zeros zs.length).map V.int))) = H4 at s4
    have hg4 : H4 dg = some (.dK (dct zs ((zeros zs.length).map V.int))) := by
      rw [← hH4, upd_same]
    have ndgH : H2 dg = none := s3.free ndg
    -- 'fallen'
    refine ⟨.ref nl, rfl, nl, rfl, ⟨_, s4.seq (s2.seq sq)⟩, fun D2 nD2 => ?_⟩
    refine lc_it (walk_list (K := K) (a := nl) (xs := zs.map V.str)) (fun i H' => Same H4 H' ∧ ∃ ps, H' D2 = some (.lst (List.map V.ref ps)) ∧ PairsAt K H' ps (dct (zs.take i) ((zeros i).map V.int))) ⟨same_upd nD2, [], upd_same, .nil⟩ (fun i H' _ hP => hP.1.seq (s4.seq (s2.seq sq)))
      (fun i x H5' H5 hi hP hY => ?_) (fun H5 hP => ?_)
    · obtain ⟨rfl, hx⟩ := hY
      rw [lenz] at hi
      obtain ⟨sm, ps, hD, hp⟩ := hP
      cases strAt hi hx
      refine ⟨rfl, _, rfl, by show 2 ≤ sizeLine; decide, fun t nt => ⟨_, by rw [upd_ne (ne_of_none hD nt)]; exact hD, smallP hi (lenZ i) hp, ?_⟩⟩
      exact step0 H4 H5 D2 ps i hi nD2 sm hD hp t nt
    obtain ⟨s5, ps2, hD2, hp2⟩ := hP
    rw [lenz, full] at hp2
    refine ⟨D2, ps2, _, rfl, .inl (.inl hD2), hp2, fun df ndf => ?_⟩
    rw [merge_new nd]
    have s6 := s5.trans (same_upd (o := .dK (dct zs ((zeros zs.length).map V.int))) ndf)
    generalize hH6 : upd H5 df (.dK (dct zs ((zeros zs.length).map V.int))) = H6 at s6
    have hf6 : H6 df = some (.dK (dct zs ((zeros zs.length).map V.int))) := by
      rw [← hH6, upd_same]
    have ndfH : H4 df = none := s5.free ndf
    -- 'notes'
    have s26 := s4.trans s6
    refine ⟨.ref nl, rfl, nl, rfl, ⟨_, s26.seq (s2.seq sq)⟩, fun D3 nD3 => ?_⟩
    refine lc_it (walk_list (K := K) (a := nl) (xs := zs.map V.str)) (fun i H' => Same H6 H' ∧ ∃ ps rs, H' D3 = some (.lst (List.map V.ref ps)) ∧ rs.length = i ∧ PairsAt K H' ps (dct (zs.take i) (List.map V.ref rs)) ∧ rs.Nodup ∧ (∀ r ∈ rs, H6 r = none ∧ r ≠ D3 ∧ H' r = some (.lst [])))
      ⟨same_upd nD3, [], [], upd_same, rfl, .nil, List.nodup_nil, fun r hr => absurd hr List.not_mem_nil⟩ (fun i H' _ hP => hP.1.seq (s26.seq (s2.seq sq))) (fun i x H7' H7 hi hP hY => ?_) (fun H7 hP => ?_)
    · obtain ⟨rfl, hx⟩ := hY
      rw [lenz] at hi
      obtain ⟨sm, ps, rs, hD, lrs, hp, nrs, hrs⟩ := hP
      cases strAt hi hx
      refine ⟨rfl, _, rfl, Nat.zero_le _, fun e ne => ⟨by show 2 ≤ sizeLine; decide, fun t nt => ?_⟩⟩
      have se := same_upd (o := .lst []) ne
      have hDe := se _ _ hD
      have eD : e ≠ D3 := (ne_of_none hD ne).symm
      have hpe := pairs_kt (kt_same se) hp
      refine ⟨_, by rw [upd_ne (ne_of_none hDe nt)]; exact hDe, smallP hi (by rw [List.length_map, lrs]) hp, ?_⟩
      obtain ⟨a1, a2, a3, a4⟩ := pairs_step (z := zs[i]) (v := .ref e) nD3 (sm.trans se) hDe hpe (by rw [List.length_map, List.length_take, lrs]; omega) nt
      have et : e ≠ t := ne_of_none (upd_same (H := H7)) nt
      refine ⟨a1, ps ++ [t], rs ++ [e], a2, by rw [List.length_append, lrs]; rfl, ?_, ?_, fun r hr => ?_⟩
      · rw [take_succ hi, List.map_append]
        exact a3
      · rw [List.nodup_append]
        refine ⟨nrs, by simp, fun a ha b hb z => ?_⟩
        rw [List.mem_singleton.mp hb] at z
        have := (hrs a ha).2.2
        rw [z, ne] at this
        cases this
      · rcases List.mem_append.mp hr with hr | hr
        · obtain ⟨b1, b2, b3⟩ := hrs r hr
          exact ⟨b1, b2, by rw [upd_ne b2, upd_ne (ne_of_none (se _ _ b3) nt)]; exact se _ _ b3⟩
        · rw [List.mem_singleton.mp hr]
          exact ⟨sm.free ne, eD, by rw [upd_ne eD, upd_ne et, upd_same]⟩
    obtain ⟨s7, ps3, rs, hD3, lrs, hp3, nrs, hrs⟩ := hP
    rw [lenz] at lrs
    rw [lenz, full] at hp3
    refine ⟨D3, ps3, _, rfl, .inl (.inl hD3), hp3, fun dn ndn => ?_⟩
    rw [merge_new nd]
    have s8 := s7.trans (same_upd (o := .dK (dct zs (List.map V.ref rs))) ndn)
    have s28 := s26.trans s8
    refine ⟨s28 _ _ hm2, dct keysM [.ref lo, .ref dg, .ref df, .ref dn], rfl, by show 4 ≤ 15; decide, ?_⟩
    rw [merge_new keysM_nd]
    have hm8 : upd H7 dn (.dK (dct zs (List.map V.ref rs))) m = some (.dK []) := s28 _ _ hm2
    generalize hH8 : upd H7 dn (.dK (dct zs (List.map V.ref rs))) = H8 at s8 s28 hm8
    have hn8 : H8 dn = some (.dK (dct zs (List.map V.ref rs))) := by
      rw [← hH8, upd_same]
    have nH2 : ∀ {b : Addr}, H2 b = none → H b = none := fun {b} h => s2.free h
    have mne : ∀ {b : Addr}, H2 b = none → b ≠ m := fun {b} h => (ne_of_none hm2 h).symm
    have sM : ∀ b o, b ≠ m → H8 b = some o → upd H8 m (.dK (MdA.main ⟨m, lo, dg, df, dn, rs⟩)) b = some o := fun b o n e => by
      rw [upd_ne n]
      exact e
    have dn2 : H2 dn = none := s26.free (s7.free ndn)
    have df2 : H2 df = none := s4.free ndfH
    have rs2 : ∀ r ∈ rs, H2 r = none := fun r hr => s26.free (hrs r hr).1
    have lom : lo ≠ m := fun z => by
      rw [z, hm2] at hl2
      cases hl2
    refine q ⟨m, lo, dg, df, dn, rs⟩ (upd H8 m (.dK (MdA.main ⟨m, lo, dg, df, dn, rs⟩))) (fun b o e => ?_) (fun b hb => ?_) ?_
    · rw [upd_ne (ne_of_none e nm)]
      exact s28 _ _ (s2 _ _ e)
    · rcases hb with h | h | h | h | h | h
      · rw [h]; exact nm
      · rw [h]; exact nloH
      · rw [h]; exact nH2 ndgH
      · rw [h]; exact nH2 df2
      · rw [h]; exact nH2 dn2
      · exact nH2 (rs2 b h)
    · refine ⟨upd_same, sM _ _ lom (s28 _ _ hl2), sM _ _ (mne ndgH) (s8 _ _ (s6 _ _ hg4)), sM _ _ (mne df2) (s8 _ _ hf6), sM _ _ (mne dn2) hn8, fun i r l e1 e2 => ?_, nrs, fun hc => ?_, fun z => ?_, fun z => ?_, mne ndgH, (mne dn2).symm, nd, ?_, ?_, ?_, lrs⟩
      · have hr := List.mem_of_getElem? e1
        have el : l = [] := by
          have e2' : (List.replicate zs.length ([] : List (Str × Int)))[i]? = some l := e2
          rw [List.getElem?_replicate] at e2'
          split at e2'
          · exact (Option.some.inj e2').symm
          · cases e2'
        subst el
        refine ⟨[], sM _ _ (mne (rs2 r hr)) ?_, .nil⟩
        rw [← hH8, upd_ne (ne_of_none (hrs r hr).2.2 ndn)]
        exact (hrs r hr).2.2
      · have := rs2 lo hc
        rw [hl2] at this
        cases this
      · have z' : dg = df := z
        rw [← z', hg4] at ndfH
        cases ndfH
      · have z' : dg = dn := z
        have := s7.free ndn
        rw [← z', s6 _ _ hg4] at this
        cases this
      · unfold newMd zeros
        exact List.length_replicate
      · unfold newMd zeros
        exact List.length_replicate
      · unfold newMd
        exact List.length_replicate
end
end Rc

namespace Rc
open PySem PySem.Spec PyProof.Rows L2 RZ
theorem dget_at {H : Hp} {a : Addr} {zs : List Str} {vs : List V} {j : Nat} {z : Str} {v : V} (h : H a = some (.dK (dct zs vs))) (nd : zs.Nodup) (e1 : zs[j]? = some z) (e2 : vs[j]? = some v) : DGet H a (.str z) (some v) := by
  have := DGet.k (k := Sum.inr z) h
  rw [dct_val nd e1 e2] at this
  exact this
section
variable {K : PySem.W.Frag} {H : Hp} {zs : List Str} {a : MdA} {D : Md}
theorem ModelAt.g0 (h : ModelAt K H zs a D) : DGet H a.m (.str "order") (some (.ref a.lo)) := dget_at (j := 0) h.hm keysM_nd rfl rfl
theorem ModelAt.g1 (h : ModelAt K H zs a D) : DGet H a.m (.str "given") (some (.ref a.dg)) := dget_at (j := 1) h.hm keysM_nd rfl rfl
theorem ModelAt.g2 (h : ModelAt K H zs a D) : DGet H a.m (.str "fallen") (some (.ref a.df)) := dget_at (j := 2) h.hm keysM_nd rfl rfl
theorem ModelAt.g3 (h : ModelAt K H zs a D) : DGet H a.m (.str "notes") (some (.ref a.dn)) := dget_at (j := 3) h.hm keysM_nd rfl rfl
theorem ModelAt.gg (h : ModelAt K H zs a D) {j : Nat} {z : Str} {n : Int} (e : zs[j]? = some z) (e2 : D.given[j]? = some n) : DGet H a.dg (.str z) (some (.int n)) := dget_at h.hg h.zn e (map_get e2)
theorem ModelAt.gf (h : ModelAt K H zs a D) {j : Nat} {z : Str} {n : Int} (e : zs[j]? = some z) (e2 : D.fallen[j]? = some n) : DGet H a.df (.str z) (some (.int n)) := dget_at h.hf h.zn e (map_get e2)
theorem ModelAt.gn (h : ModelAt K H zs a D) {j : Nat} {z : Str} {r : Addr} (e : zs[j]? = some z) (e2 : a.rs[j]? = some r) : DGet H a.dn (.str z) (some (.ref r)) := dget_at h.hn h.zn e (map_get e2)
theorem ModelAt.at_ (h : ModelAt K H zs a D) {j : Nat} {z : Str} (e : zs[j]? = some z) : ∃ g f l r xs, D.given[j]? = some g ∧ D.fallen[j]? = some f ∧ D.notes[j]? = some l ∧ a.rs[j]? = some r ∧ H r = some (.lst xs) ∧ DtAll K H xs (notesD l) := by
  have hj : j < zs.length := (List.getElem?_eq_some_iff.mp e).1
  have h1 : j < D.given.length := by rw [h.lg]; exact hj
  have h2 : j < D.fallen.length := by rw [h.lf]; exact hj
  have h3 : j < D.notes.length := by rw [h.ln]; exact hj
  have h4 : j < a.rs.length := by rw [h.lr]; exact hj
  obtain ⟨xs, e1, e2⟩ := h.rows j _ _ (List.getElem?_eq_getElem h4) (List.getElem?_eq_getElem h3)
  exact ⟨_, _, _, _, xs, List.getElem?_eq_getElem h1, List.getElem?_eq_getElem h2, List.getElem?_eq_getElem h3, List.getElem?_eq_getElem h4, e1, e2⟩
end
theorem min_part (am f : Int) : (if am < f then am else f) = partOf am f := by
  unfold partOf
  split <;> split <;> omega
section
variable {P : Program} {w : World} {K : PySem.W.Frag} {mg : Str → Option Value} {base : Heap}
/-! ### _law_parted -/
abbrev sLPt : Stmt := topS 39
abbrev nLPt : List Str := ["_law_model_here", "_law_who", "_law_gone", "_law_left_here", "_law_rest", "_law_to", "_law_amount_here", "_law_here"]
theorem scLPt : FnScope nLPt ["_law_model_here", "_law_who"] (defScope sLPt) := ⟨rfl, rfl, rfl, by decide +kernel, rfl, by decide +kernel, by decide +kernel⟩
def spLPt (K : PySem.W.Frag) : Sp := fun vs H Q _ => ∃ (a : MdA) (D : Md) (zs : List Str) (z : Str) (j : Nat) (l : List (Str × Int)) (f : Int), vs = [.ref a.m, .str z] ∧ ModelAt K H zs a D ∧ zs[j]? = some z ∧ D.notes[j]? = some l ∧ D.fallen[j]? = some f ∧ l.length ≤ 100 ∧
  ∀ t g m gx mx H', Same H H' → H' t = some (.tup [.ref g, .ref m]) → H g = none → H m = none → H' g = some (.lst gx) → H' m = some (.lst mx) → DtAll K H' gx (notesD (goneN l f)) → DtAll K H' mx (notesD (leftN l f)) → Q (.ref t) H'
theorem rep_if {v : V} (c : Prop) [Decidable c] : (List.replicate (if decide c = true then (1 : Int) else 0).toNat [v]).flatten = if c then [v] else [] := by
  by_cases h : c
  · rw [decide_eq_true h, if_pos h]
    rfl
  · rw [decide_eq_false h, if_neg h]
    rfl
theorem one_note {K : PySem.W.Frag} {H : Hp} {v : V} {n : Str × Int} (c : Prop) [Decidable c] (h : Dt K H v (noteD n)) : DtAll K H (if c then [v] else []) ((if c then [n] else []).map noteD) := by
  by_cases hc : c
  · rw [if_pos hc, if_pos hc]
    exact .cons h .nil
  · rw [if_neg hc, if_neg hc]
    exact .nil
theorem ok_lpt {f : Addr} {fd : FuncData} (F : Fun K "_law_parted" "_law_parted" sLPt f fd) (B : Blt mg) (B2 : Blt2 mg) : FnOk P w K mg base CX0 1 f fd ["_law_model_here", "_law_who"] (spLPt K) := by
  refine F.ok scLPt (fun vs H Q E h => ?_) (fun cdv Ar outer s H vs Q E hr h => ?_)
  · obtain ⟨_, _, _, _, _, _, _, rfl, _⟩ := h
    rfl
  · obtain ⟨a, D, zs, z, j, l, f0, rfl, hM, ej, el, ef, ll, q⟩ := h
    have hu := hu_of hr
    refine ⟨_, pss_cons (ps_par (i := 2) (j := 3) rfl scLPt.nd rfl rfl (by decide) rfl rfl (pa_cons (pe_lst pa_nil) (pa_cons (pe_lst pa_nil) pa_nil)) (by rfl))
      (pss_cons (ps_set (i := 4) scLPt.nd rfl (.inl rfl) (pe_dget hu (pe_dget hu (pv 0) pe_str (fun _ _ => rfl)) (pv 1) (fun _ _ => rfl)))
      (pss_cons (ps_for PassesOwn.never rfl (pi_list (pe_dget hu (pe_dget hu (pv 0) pe_str (fun _ _ => rfl)) (pv 1) (fun _ _ => rfl))) (pg_tup rfl (pgs_cons (pg_name (i := 5) scLPt.nd rfl (.inl rfl)) (pgs_cons (pg_name (i := 6) scLPt.nd rfl (.inl rfl)) pgs_nil)))
        (pss_cons (ps_set (i := 7) scLPt.nd rfl (.inl rfl) (pe_callB (call_min2 rfl) (by rfl) B2.min (by decide +kernel) (pa_cons (pv 4) (pa_cons (pv 6) pa_nil))))
        (pss_cons (ps_set (i := 4) scLPt.nd rfl (.inl rfl) (pe_op op_sub (pv 4) (pv 7)))
        (pss_cons (ps_set (i := 2) scLPt.nd rfl (.inl rfl) (pe_op op_cat (pv 2) (pe_op op_rep (pe_lst (pa_cons (pe_tup (pa_cons (pv 5) (pa_cons (pv 7) pa_nil))) pa_nil)) (pe_callTy call_int1 (by rfl) B.int (by decide +kernel) (pa_cons (pe_cmpR op_gt (pv 7) pe_int (nomark _)) pa_nil)))))
        (pss_one (ps_set (i := 3) scLPt.nd rfl (.inl rfl) (pe_op op_cat (pv 3) (pe_op op_rep (pe_lst (pa_cons (pe_tup (pa_cons (pv 5) (pa_cons (pe_op op_sub (pv 6) (pv 7)) pa_nil))) pa_nil)) (pe_callTy call_int1 (by rfl) B.int (by decide +kernel) (pa_cons (pe_cmpR op_lt (pv 7) (pv 6) (nomark _)) pa_nil))))))))))
      (pss_one (ps_ret (pe_tup (pa_cons (pv 2) (pa_cons (pv 3) pa_nil))))))), ?_⟩
    obtain ⟨gv, f', l', r, xs, eg, ef', el', er, hr0, hd0⟩ := hM.at_ ej
    rw [ef] at ef'
    cases ef'
    rw [el] at el'
    cases el'
    refine ⟨Nat.zero_le _, fun g ng => ⟨Nat.zero_le _, fun m nm => ⟨_, _, rfl, ?_⟩⟩⟩
    have gm : g ≠ m := fun z => by
      rw [← z, upd_same] at nm
      cases nm
    have s0 : Same H (upd (upd H g (.lst [])) m (.lst [])) := (same_upd ng).trans (same_upd nm)
    have nmH : H m = none := (same_upd ng).free nm
    have hM0 := model_same hM s0
    refine ⟨.ref a.m, rfl, a.m, .ref a.df, rfl, hM0.g2, .str z, rfl, a.df, .int f0, rfl, hM0.gf ej ef, ?_⟩
    refine ⟨.ref a.m, rfl, a.m, .ref a.dn, rfl, hM0.g3, .str z, rfl, a.dn, .ref r, rfl, hM0.gn ej er, r, rfl, ⟨_, .inl (.inl (s0 _ _ hr0))⟩, ?_⟩
    refine for_it (walk_list (K := K) (a := r) (xs := xs)) (fun i σ H' => ∃ y5 y6 y7 fi g m gx mx Gs Ms, σ = [some (.ref a.m), some (.str z), some (.ref g), some (.ref m), some (.int fi), y5, y6, y7] ∧ Same H H' ∧ H g = none ∧ H m = none ∧ H' g = some (.lst gx) ∧ H' m = some (.lst mx) ∧
        DtAll K H' gx (notesD Gs) ∧ DtAll K H' mx (notesD Ms) ∧ Gs.length ≤ i ∧ Ms.length ≤ i ∧ Gs ++ goneN (l.drop i) fi = goneN l f0 ∧ Ms ++ leftN (l.drop i) fi = leftN l f0)
      ⟨_, _, _, f0, g, m, [], [], [], [], rfl, s0, ng, nmH, by rw [upd_ne gm, upd_same], upd_same, .nil, .nil, Nat.le_refl _, Nat.le_refl _, rfl, rfl⟩ (fun i σ H' _ hP => ?_) (fun i x σ H1' H1 hi hP hY => ?_) (fun σ H' hP => ?_)
    · obtain ⟨_, _, _, _, _, _, _, _, _, _, _, s1, _⟩ := hP
      exact .inl (.inl (s1 _ _ hr0))
    · obtain ⟨rfl, ex⟩ := hY
      obtain ⟨y5, y6, y7, fi, g, m, gx, mx, Gs, Ms, rfl, s1, ng, nm, hg, hm, dg, dm, lg, lm, eg', em⟩ := hP
      obtain ⟨hil, dn⟩ := (DtAll.same s1 _ hd0).notes_get ex
      obtain ⟨ta, rfl, qt⟩ := note_inv dn
      have ed : l.drop i = l[i] :: l.drop (i + 1) := List.drop_eq_getElem_cons hil
      rw [ed] at eg' em
      obtain ⟨t, am, el1⟩ : ∃ t am, l[i] = (t, am) := ⟨_, _, rfl⟩
      rw [el1] at eg' em qt
      rw [goneN_cons] at eg'
      rw [leftN_cons] at em
      have dgl := dg.len
      have dml := dm.len
      unfold notesD at dgl dml
      rw [List.length_map] at dgl dml
      refine ⟨ta, _, rfl, qt, rfl, _, _, rfl, _, _, rfl, rfl, ?_⟩
      refine ⟨.int fi, rfl, .int am, rfl, _, _, rfl, ?_⟩
      rw [min_part]
      generalize partOf am fi = pt at eg' em
      refine ⟨.int fi, rfl, .int pt, rfl, _, _, rfl, rfl, ?_⟩
      refine ⟨.ref g, rfl, .str t, rfl, .int pt, rfl, by show 2 ≤ sizeLine; decide, fun t1 n1 => ⟨by show 1 ≤ sizeLine; decide, fun l1 nl1 => ?_⟩⟩
      refine ⟨.int pt, rfl, _, _, rfl, rfl, .inr ⟨_, rfl, l1, _, _, rfl, rfl, upd_same, by split <;> decide, by split <;> decide, ?_, fun l2 nl2 => ?_⟩⟩
      · show 1 * _ ≤ sizeLine
        split <;> decide
      rw [rep_if]
      have sA := (same_upd (o := .tup [V.str t, V.int pt]) n1).trans ((same_upd (o := .lst [V.ref t1]) nl1).trans (same_upd (o := .lst (if 0 < pt then [V.ref t1] else [])) nl2))
      generalize hHA : upd (upd (upd H1 t1 (.tup [V.str t, V.int pt])) l1 (.lst [V.ref t1])) l2 (.lst (if 0 < pt then [V.ref t1] else [])) = HA at sA
      have hl2 : HA l2 = some (.lst (if 0 < pt then [V.ref t1] else [])) := by
        rw [← hHA, upd_same]
      have ht1 : HA t1 = some (.tup [V.str t, V.int pt]) := by
        rw [← hHA]
        exact (same_upd nl2) _ _ ((same_upd nl1) _ _ upd_same)
      refine ⟨g, l2, gx, _, rfl, rfl, sA _ _ hg, hl2, ?_, fun g2 ng2 => ?_⟩
      · have : (if 0 < pt then [V.ref t1] else []).length ≤ 1 := by split <;> simp
        exact small_line (by omega)
      have sB := sA.trans (same_upd (o := .lst (gx ++ if 0 < pt then [V.ref t1] else [])) ng2)
      generalize hHB : upd HA g2 (.lst (gx ++ if 0 < pt then [V.ref t1] else [])) = HB at sB
      have hg2 : HB g2 = some (.lst (gx ++ if 0 < pt then [V.ref t1] else [])) := by
        rw [← hHB, upd_same]
      have ht1B : HB t1 = some (.tup [V.str t, V.int pt]) := by
        rw [← hHB]
        exact same_upd ng2 _ _ ht1
      have ng2H : H g2 = none := (s1.trans sA).free ng2
      -- left
      refine ⟨.ref m, rfl, .str t, rfl, .int am, rfl, .int pt, rfl, _, _, rfl, rfl, by show 2 ≤ sizeLine; decide, fun t3 n3 => ⟨by show 1 ≤ sizeLine; decide, fun l3 nl3 => ?_⟩⟩
      refine ⟨.int pt, rfl, .int am, rfl, _, _, rfl, rfl, .inr ⟨_, rfl, l3, _, _, rfl, rfl, upd_same, by split <;> decide, by split <;> decide, ?_, fun l4 nl4 => ?_⟩⟩
      · show 1 * _ ≤ sizeLine
        split <;> decide
      rw [rep_if]
      have sC := (same_upd (o := .tup [V.str t, V.int (am - pt)]) n3).trans ((same_upd (o := .lst [V.ref t3]) nl3).trans (same_upd (o := .lst (if pt < am then [V.ref t3] else [])) nl4))
      generalize hHC : upd (upd (upd HB t3 (.tup [V.str t, V.int (am - pt)])) l3 (.lst [V.ref t3])) l4 (.lst (if pt < am then [V.ref t3] else [])) = HC at sC
      have hl4 : HC l4 = some (.lst (if pt < am then [V.ref t3] else [])) := by
        rw [← hHC, upd_same]
      have ht3 : HC t3 = some (.tup [V.str t, V.int (am - pt)]) := by
        rw [← hHC]
        exact (same_upd nl4) _ _ ((same_upd nl3) _ _ upd_same)
      refine ⟨m, l4, mx, _, rfl, rfl, sC _ _ (sB _ _ hm), hl4, ?_, fun m2 nm2 => ?_⟩
      · have : (if pt < am then [V.ref t3] else []).length ≤ 1 := by split <;> simp
        exact small_line (by omega)
      have sD := sC.trans (same_upd (o := .lst (mx ++ if pt < am then [V.ref t3] else [])) nm2)
      have sE := same_upd (o := .lst (mx ++ if pt < am then [V.ref t3] else [])) nm2
      refine ⟨_, _, _, fi - pt, g2, m2, _, _, Gs ++ (if 0 < pt then [(t, pt)] else []), Ms ++ (if pt < am then [(t, am - pt)] else []), rfl, s1.trans (sB.trans sD), ng2H, ((s1.trans sB).trans sC).free nm2, sD _ _ hg2, upd_same, ?_, ?_, ?_, ?_, by rw [List.append_assoc]; exact eg', by rw [List.append_assoc]; exact em⟩
      · unfold notesD
        rw [List.map_append]
        exact (DtAll.same (sB.trans sD) _ dg).append (one_note _ (.tup (.inl (.inl (sD _ _ ht1B))) (.cons (.str _) (.cons (.int _) .nil))))
      · unfold notesD
        rw [List.map_append]
        exact (DtAll.same (sB.trans sD) _ dm).append (one_note _ (.tup (.inl (.inl (sE _ _ ht3))) (.cons (.str _) (.cons (.int _) .nil))))
      · rw [List.length_append]
        have : (if 0 < pt then [(t, pt)] else []).length ≤ 1 := by split <;> simp
        omega
      · rw [List.length_append]
        have : (if pt < am then [(t, am - pt)] else []).length ≤ 1 := by split <;> simp
        omega
    · obtain ⟨y5, y6, y7, fi, g, m, gx, mx, Gs, Ms, rfl, s1, ng, nm, hg, hm, dg, dm, lg, lm, eg', em⟩ := hP
      have hx : l.drop xs.length = [] := List.drop_of_length_le (by
        have := hd0.len
        unfold notesD at this
        rw [List.length_map] at this
        omega)
      rw [hx] at eg' em
      rw [goneN_nil, List.append_nil] at eg'
      rw [leftN_nil, List.append_nil] at em
      subst eg' em
      refine ⟨.ref g, rfl, .ref m, rfl, by show 2 ≤ sizeLine; decide, fun t nt => ?_⟩
      have st := same_upd (o := .tup [.ref g, .ref m]) nt
      exact q t g m gx mx _ (s1.trans st) upd_same ng nm (st _ _ hg) (st _ _ hm) (DtAll.same st _ dg) (DtAll.same st _ dm)
end
end Rc

namespace Rc
open PySem PySem.Spec PyProof.Rows L2 RZ
/-! ### _law_deeds -/
inductive Deed where
  | give (z : Str) (n : Int)
  | put (z y : Str) (n : Int)
def deedD : Deed → PyData
  | .give z n => .tuple [.str "give", .str z, .int n]
  | .put z y n => .tuple [.str "put", .str z, .str y, .int n]
theorem tup_deed (d : Deed) : tupD (deedD d) = true := by cases d <;> simp [deedD, tupD, tupDs]
def deedsD (l : List Deed) : List PyData := l.map deedD
theorem tup_deeds (l : List Deed) : tupDs (deedsD l) = true := tupDs_map tup_deed l
def Deed.Ok (zs : List Str) : Deed → Prop
  | .give z n => z ∈ zs ∧ Amt n
  | .put z y n => z ∈ zs ∧ y ∈ zs ∧ Amt n
end Rc

namespace Rc
open PySem PySem.Spec PyProof.Rows L2 RZ
def RowsOk (D : Md) : Prop := ∀ l ∈ D.notes, l.length ≤ 60
def sumsD (D : Md) (z : Str) : Int := ((D.notes.zip D.fallen).map fun p => sumTo z (goneN p.1 p.2)).sum
def cashD (D : Md) (j : Nat) (z : Str) : Int := D.given.getD j 0 - D.fallen.getD j 0 + sumsD D z
def bkOf (zs : List Str) (D : Md) : Bk := ⟨zs, D.given, D.notes, D.fallen⟩
theorem cash_eq (zs : List Str) (D : Md) (j : Nat) (z : Str) : cashM (bkOf zs D) j z = cashD D j z := by
  show D.given.getD j 0 + sumsD D z - D.fallen.getD j 0 = D.given.getD j 0 - D.fallen.getD j 0 + sumsD D z
  omega
def doneD (zs : List Str) (D : Md) : Deed → Md
  | .give z n => { D with given := D.given.set (zs.idxOf z) (D.given.getD (zs.idxOf z) 0 + n) }
  | .put z y n => { D with notes := D.notes.set (zs.idxOf z) (D.notes.getD (zs.idxOf z) [] ++ [(y, n)]) }
def stepM (M : Bk) : Deed → Bk
  | .give z n => giveM M (M.names.idxOf z) n
  | .put z y n => putM M (M.names.idxOf z) y n
theorem step_eq (zs : List Str) (D : Md) (d : Deed) : stepM (bkOf zs D) d = bkOf zs (doneD zs D d) := by cases d <;> rfl
theorem idx_get {zs : List Str} {z : Str} (h : z ∈ zs) : zs[zs.idxOf z]? = some z := by
  have hl := List.idxOf_lt_length_of_mem h
  rw [List.getElem?_eq_getElem hl, List.getElem_idxOf]
theorem sum_set : ∀ (l : List (List (Str × Int))) (j : Nat) (x : List (Str × Int)), j < l.length → ((l.set j x).map List.length).sum + (l.getD j []).length = (l.map List.length).sum + x.length
  | [], j, x, h => by simp at h
  | a :: r, 0, x, h => by
    simp only [List.set_cons_zero, List.map_cons, List.sum_cons, List.getD_cons_zero]
    omega
  | a :: r, j + 1, x, h => by
    have := sum_set r j x (by simpa using h)
    simp only [List.set_cons_succ, List.map_cons, List.sum_cons, List.getD_cons_succ]
    omega
theorem step_ok {M : Bk} (ok : M.Ok) {d : Deed} (hd : d.Ok M.names) (hm : manyM M + 1 ≤ 60) : (stepM M d).Ok ∧ manyM (stepM M d) ≤ manyM M + 1 ∧ (stepM M d).names = M.names := by
  cases d with
  | give z n => exact ⟨⟨ok.n0, ok.n1, ok.nd, ok.nm, by show (M.gifts.set _ _).length = _; rw [List.length_set]; exact ok.lg, ok.ls, ok.ld, ok.many⟩, Nat.le_succ _, rfl⟩
  | put z y n =>
    have hj : M.names.idxOf z < M.stacks.length := by
      rw [ok.ls]
      exact List.idxOf_lt_length_of_mem hd.1
    have e : manyM (stepM M (.put z y n)) = manyM M + 1 := by
      have := sum_set M.stacks (M.names.idxOf z) (M.stacks.getD (M.names.idxOf z) [] ++ [(y, n)]) hj
      rw [List.length_append] at this
      show ((M.stacks.set _ _).map List.length).sum = (M.stacks.map List.length).sum + 1
      have e1 : [(y, n)].length = 1 := rfl
      omega
    exact ⟨⟨ok.n0, ok.n1, ok.nd, ok.nm, ok.lg, by show (M.stacks.set _ _).length = _; rw [List.length_set]; exact ok.ls, ok.ld, by show manyM (stepM M (.put z y n)) ≤ 60; omega⟩, Nat.le_of_eq e, rfl⟩
theorem dfold_ok : ∀ (ds : List Deed) {M : Bk}, M.Ok → (∀ d ∈ ds, d.Ok M.names) → manyM M + ds.length ≤ 60 → (ds.foldl stepM M).Ok ∧ manyM (ds.foldl stepM M) ≤ manyM M + ds.length ∧ (ds.foldl stepM M).names = M.names
  | [], M, ok, _, _ => ⟨ok, Nat.le_refl _, rfl⟩
  | d :: ds, M, ok, h, hm => by
    rw [List.length_cons] at hm
    obtain ⟨a1, a2, a3⟩ := step_ok ok (h d List.mem_cons_self) (by omega)
    obtain ⟨b1, b2, b3⟩ := dfold_ok ds a1 (fun e he => by rw [a3]; exact h e (List.mem_cons_of_mem _ he)) (by omega)
    refine ⟨b1, ?_, b3.trans a3⟩
    rw [List.length_cons]
    show manyM (ds.foldl stepM (stepM M d)) ≤ _
    omega
end Rc

namespace Rc
open PySem PySem.Spec PyProof.Rows L2 RZ
section
variable {P : Program} {w : World} {K : PySem.W.Frag} {mg : Str → Option Value} {base : Heap}
/-! ### _law_left -/
abbrev sLLf : Stmt := topS 40
theorem scLLf : FnScope ["_law_model_here", "_law_who"] ["_law_model_here", "_law_who"] (defScope sLLf) := ⟨rfl, rfl, rfl, by decide +kernel, rfl, by decide +kernel, by decide +kernel⟩
def spLLf (K : PySem.W.Frag) : Sp := fun vs H Q _ => ∃ (a : MdA) (D : Md) (zs : List Str) (z : Str) (j : Nat) (l : List (Str × Int)) (f : Int), vs = [.ref a.m, .str z] ∧ ModelAt K H zs a D ∧ zs[j]? = some z ∧ D.notes[j]? = some l ∧ D.fallen[j]? = some f ∧ l.length ≤ 100 ∧
  ∀ m mx H', Same H H' → H m = none → H' m = some (.lst mx) → DtAll K H' mx (notesD (leftN l f)) → Q (.ref m) H'
theorem ok_llf {f fp : Addr} {fd fdp : FuncData} (F : Fun K "_law_left" "_law_left" sLLf f fd) (PT : Has P w K mg base 1 "_law_parted" ["_law_model_here", "_law_who"] (spLPt K) fp fdp) : FnOk P w K mg base CX0 2 f fd ["_law_model_here", "_law_who"] (spLLf K) := by
  refine F.ok scLLf (fun vs H Q E h => ?_) (fun cdv Ar outer s H vs Q E hr h => ?_)
  · obtain ⟨_, _, _, _, _, _, _, rfl, _⟩ := h
    rfl
  · obtain ⟨a, D, zs, z, j, l, f0, rfl, hM, ej, el, ef, ll, q⟩ := h
    refine ⟨_, pss_one (ps_ret (pe_ix ix_tup (pe_call PT.ok hr (by rfl) PT.g PT.kp PT.b .nil pass0 (pa_cons (pv 0) (pa_cons (pv 1) pa_nil))) pe_int (fun _ _ => rfl))), ?_⟩
    refine ⟨.ref a.m, rfl, .str z, rfl, a, D, zs, z, j, l, f0, rfl, hM, ej, el, ef, ll, fun t g m gx mx H1 s1 ht ng nm hg hm dg dm => ?_⟩
    exact ⟨t, _, 1, .ref m, rfl, rfl, .inl (.inl ht), rfl, q m mx H1 s1 nm hm dm⟩
end
end Rc

namespace Rc
open PySem PySem.Spec PyProof.Rows L2 RZ
theorem give_ne_put : ¬ (V.str ("put" : Str)) = V.str ("give" : Str) := fun e => absurd (V.str.inj e) (by decide +kernel)
/-- what a deed changes -/
def MdA.Foot (a : MdA) (b : Addr) : Prop := b = a.dg ∨ b ∈ a.rs
def ButF (a : MdA) (H H' : Hp) : Prop := ∀ b o, ¬ a.Foot b → H b = some o → H' b = some o
theorem ModelAt.nofoot_tup {K : PySem.W.Frag} {H : Hp} {zs : List Str} {a : MdA} {D : Md} (h : ModelAt K H zs a D) {b : Addr} {o : HO} (e : H b = some o) (t : TupO o) : ¬ a.Foot b := fun f => by
  rcases f with f | f
  · rw [f, h.hg] at e
    cases e
    exact t
  · obtain ⟨i, hi, e'⟩ := List.getElem_of_mem f
    have hn : i < D.notes.length := by
      rw [h.ln, ← h.lr]
      exact hi
    obtain ⟨xs, e1, _⟩ := h.rows i b _ (by rw [List.getElem?_eq_getElem hi, e']) (List.getElem?_eq_getElem hn)
    rw [e1] at e
    cases e
    exact t
theorem ButF.kt {K : PySem.W.Frag} {H H' : Hp} {zs : List Str} {a : MdA} {D : Md} (b : ButF a H H') (h : ModelAt K H zs a D) : KT H H' := fun c o e t => b c o (h.nofoot_tup e t) e
theorem ButF.kp {K : PySem.W.Frag} {H H' : Hp} {zs : List Str} {a : MdA} {D : Md} (b : ButF a H H') (h : ModelAt K H zs a D) : Kp H H' := fun c o e t => b c o (fun f => by
  rcases f with f | f
  · rw [f, h.hg] at e
    cases e
    exact t
  · obtain ⟨i, hi, e'⟩ := List.getElem_of_mem f
    have hn : i < D.notes.length := by
      rw [h.ln, ← h.lr]
      exact hi
    obtain ⟨xs, e1, _⟩ := h.rows i c _ (by rw [List.getElem?_eq_getElem hi, e']) (List.getElem?_eq_getElem hn)
    rw [e1] at e
    cases e
    exact t) e
theorem deed_give {K : PySem.W.Frag} {H : Hp} {v : V} {z : Str} {n : Int} (h : Dt K H v (deedD (.give z n))) : Dt K H v (.tuple [.str "give", .str z, .int n]) := h
end Rc

namespace Rc
open PySem PySem.Spec PyProof.Rows L2 RZ
/-! ### data that can be shown -/
structure NiceD (d : PyData) (n : Nat) : Prop where
  sh : d.showable = true
  lv : d.leavesShort 1921 = true
  nd : d.hasDict = false
  dp : d.depth ≤ 5
  bk : d.bulk ≤ n
  cl : d.canLay0 = true
structure NiceA (ds : List PyData) (n : Nat) : Prop where
  sh : PyData.showableAll ds = true
  lv : PyData.leavesShortAll 1921 ds = true
  nd : PyData.hasDictAll ds = false
  dp : PyData.depthAll ds ≤ 4
  bk : PyData.bulkAll ds ≤ n
  cl : PyData.canLayAll0 ds = true
theorem NiceA.nil : NiceA [] 0 := ⟨rfl, rfl, rfl, Nat.zero_le _, Nat.le_refl _, rfl⟩
theorem NiceA.cons {d : PyData} {ds : List PyData} {n m : Nat} (a : NiceD d n) (hd : d.depth ≤ 4) (b : NiceA ds m) : NiceA (d :: ds) (n + 1 + m) := by
  refine ⟨?_, ?_, ?_, ?_, ?_, ?_⟩
  · simp only [PyData.showableAll, a.sh, b.sh, Bool.and_self]
  · simp only [PyData.leavesShortAll, a.lv, b.lv, Bool.and_self]
  · simp only [PyData.hasDictAll, a.nd, b.nd, Bool.or_self]
  · simp only [PyData.depthAll]
    have := b.dp
    omega
  · simp only [PyData.bulkAll]
    have := a.bk
    have := b.bk
    omega
  · simp only [PyData.canLayAll0, a.cl, b.cl, Bool.and_self]
theorem NiceA.list {ds : List PyData} {n : Nat} (a : NiceA ds n) : NiceD (.list ds) n := by
  refine ⟨by simpa only [PyData.showable] using a.sh, by simpa only [PyData.leavesShort] using a.lv, by simpa only [PyData.hasDict] using a.nd, ?_, by simpa only [PyData.bulk] using a.bk, by simpa only [PyData.canLay0] using a.cl⟩
  simp only [PyData.depth]
  have := a.dp
  omega
theorem NiceA.tuple {ds : List PyData} {n : Nat} (a : NiceA ds n) : NiceD (.tuple ds) n := by
  refine ⟨by simpa only [PyData.showable] using a.sh, by simpa only [PyData.leavesShort] using a.lv, by simpa only [PyData.hasDict] using a.nd, ?_, by simpa only [PyData.bulk] using a.bk, by simpa only [PyData.canLay0] using a.cl⟩
  simp only [PyData.depth]
  have := a.dp
  omega
def BigOk (i : Int) : Prop := i.natAbs < 2 ^ 300
theorem nice_int {i : Int} (h : BigOk i) : NiceD (.int i) 0 := by
  have h1 : i.natAbs.log2 < 1920 := Nat.lt_trans (PySem.Flt.log2_lt_of (by decide) h) (by decide)
  refine ⟨?_, ?_, by simp only [PyData.hasDict], by simp only [PyData.depth]; omega, by simp only [PyData.bulk]; omega, by simp only [PyData.canLay0]⟩
  · simp only [PyData.showable]
    exact decide_eq_true h1
  · simp only [PyData.leavesShort, PyData.shown]
    exact decide_eq_true (int_text_len_1921 h1)
theorem abc_lt : ∀ c ∈ abc, c < 128 := by decide +kernel
theorem name_signs {z : Str} (h : nameT z = true) : ∀ c ∈ z.cps.toList, c ∈ abc := by
  unfold nameT at h
  simp only [Bool.and_eq_true, List.all_eq_true, decide_eq_true_eq] at h
  exact h.2
theorem nice_name {z : Str} (h : nameT z = true) : NiceD (.str z) 8 := by
  have hs := name_signs h
  refine ⟨by simp only [PyData.showable], ?_, by simp only [PyData.hasDict], by simp only [PyData.depth]; omega, ?_, ?_⟩
  · simp only [PyData.leavesShort, List.all_eq_true, decide_eq_true_eq]
    exact fun c hc => Nat.lt_trans (abc_lt c (hs c hc)) (by decide)
  · simp only [PyData.bulk]
    exact (nameT_len h).2
  · simp only [PyData.canLay0]
    show z.cps.all (fun c => decide (c < 0x110000)) = true
    rw [← Array.all_toList, List.all_eq_true]
    exact fun c hc => decide_eq_true (Nat.lt_trans (abc_lt c (hs c hc)) (by decide))
theorem nice_names : ∀ {zs : List Str}, (∀ z ∈ zs, nameT z = true) → NiceA (zs.map PyData.str) (9 * zs.length)
  | [], _ => NiceA.nil
  | z :: r, h => by
    have a := nice_name (h z List.mem_cons_self)
    have b := nice_names fun y hy => h y (List.mem_cons_of_mem _ hy)
    have c := NiceA.cons a (by simp only [PyData.depth]; omega) b
    rw [List.map_cons, List.length_cons]
    have e : 9 * (r.length + 1) = 8 + 1 + 9 * r.length := by omega
    rw [e]
    exact c
/-- notes as the law draws them -/
def NoteOk (zs : List Str) (n : Str × Int) : Prop := n.1 ∈ zs ∧ Amt n.2
theorem amt_big {n : Int} (h : Amt n) : BigOk n := by
  have h1 := h.1
  have h2 := h.2
  have e : (10 : Int) ^ 58 < 2 ^ 300 := by decide
  have e2 : ((2 ^ 300 : Nat) : Int) = 2 ^ 300 := by decide
  unfold BigOk
  omega
theorem nice_note {zs : List Str} (hz : ∀ z ∈ zs, nameT z = true) {n : Str × Int} (h : NoteOk zs n) : NiceD (noteD n) 10 ∧ (noteD n).depth ≤ 1 := by
  have a := NiceA.cons (nice_name (hz _ h.1)) (by simp only [PyData.depth]; omega) (NiceA.cons (nice_int (amt_big h.2)) (by simp only [PyData.depth]; omega) NiceA.nil)
  exact ⟨a.tuple, by simp [noteD, PyData.depth, PyData.depthAll]⟩
theorem nice_notes {zs : List Str} (hz : ∀ z ∈ zs, nameT z = true) : ∀ {l : List (Str × Int)}, (∀ n ∈ l, NoteOk zs n) → NiceA (notesD l) (11 * l.length)
  | [], _ => NiceA.nil
  | n :: r, h => by
    obtain ⟨a, hd⟩ := nice_note hz (h n List.mem_cons_self)
    have b := nice_notes hz fun y hy => h y (List.mem_cons_of_mem _ hy)
    have c := NiceA.cons a (by omega) b
    rw [List.length_cons]
    have e : 11 * (r.length + 1) = 10 + 1 + 11 * r.length := by omega
    rw [e]
    exact c
theorem nice_fits {d : PyData} {n : Nat} (h : NiceD d n) (hn : n ≤ 8000) : (∃ i, d = .int i) ∨ d.shown.length ≤ sizeLine := by
  have h1 := PyData.shown_le_bulk 1921 (by decide) d h.lv
  have h2 := h.bk
  refine .inr ?_
  rw [sizeLine_eq]
  have : (1921 + 2) * d.bulk ≤ 1923 * 8000 := Nat.mul_le_mul (Nat.le_refl _) (by omega)
  omega
theorem nice_shaped {d : PyData} {n : Nat} (h : NiceD d n) : SeqAt.shaped d = true := by
  unfold SeqAt.shaped
  rw [h.cl, decide_eq_true (show d.depth ≤ 64 by have := h.dp; omega)]
  rfl
/-! ### where nothing has fallen -/
theorem part_zero {a : Int} (h : 1 ≤ a) : partOf a 0 = 0 := by
  unfold partOf
  rw [if_pos (by omega)]
theorem gone_zero : ∀ {l : List (Str × Int)}, (∀ n ∈ l, 1 ≤ n.2) → goneN l 0 = []
  | [], _ => rfl
  | (t, a) :: r, h => by
    rw [goneN_cons, part_zero (h _ List.mem_cons_self), if_neg (by omega), Int.sub_zero, gone_zero fun n hn => h n (List.mem_cons_of_mem _ hn)]
    rfl
theorem left_zero : ∀ {l : List (Str × Int)}, (∀ n ∈ l, 1 ≤ n.2) → leftN l 0 = l
  | [], _ => rfl
  | (t, a) :: r, h => by
    have ha : 1 ≤ a := h _ List.mem_cons_self
    rw [leftN_cons, part_zero ha, if_pos (by omega), Int.sub_zero, Int.sub_zero, left_zero fun n hn => h n (List.mem_cons_of_mem _ hn)]
    rfl
/-- a model as the law makes it: nothing fallen, k deeds at the most -/
structure Gd (zs : List Str) (D : Md) (k : Nat) : Prop where
  zf : D.fallen = zeros zs.length
  nt : ∀ l ∈ D.notes, ∀ n ∈ l, NoteOk zs n
  gv : ∀ g ∈ D.given, 0 ≤ g ∧ g ≤ (k : Int) * 10 ^ 58
  my : (D.notes.map List.length).sum ≤ k
  k1 : k ≤ 60
theorem Gd.big {zs : List Str} {D : Md} {k : Nat} (h : Gd zs D k) {g : Int} (hg : g ∈ D.given) : BigOk g := by
  obtain ⟨a, b⟩ := h.gv g hg
  have k1 := h.k1
  have e : (60 : Int) * 10 ^ 58 < 2 ^ 300 := by decide
  have e2 : ((2 ^ 300 : Nat) : Int) = 2 ^ 300 := by decide
  have : (k : Int) * 10 ^ 58 ≤ 60 * 10 ^ 58 := Int.mul_le_mul_of_nonneg_right (by omega) (by decide)
  unfold BigOk
  omega
theorem Gd.rows {zs : List Str} {D : Md} {k : Nat} (h : Gd zs D k) : RowsOk D := fun l hl => by
  have := len_le_sum hl
  have := h.my
  have := h.k1
  omega
theorem Gd.sums {zs : List Str} {D : Md} {k : Nat} (h : Gd zs D k) (z : Str) : sumsD D z = 0 := by
  unfold sumsD
  have : ∀ p ∈ D.notes.zip D.fallen, sumTo z (goneN p.1 p.2) = 0 := fun p hp => by
    obtain ⟨h1, h2⟩ := List.of_mem_zip hp
    have e : p.2 = 0 := by
      rw [h.zf] at h2
      exact List.eq_of_mem_replicate h2
    rw [e, gone_zero fun n hn => (h.nt _ h1 n hn).2.1]
    rfl
  generalize D.notes.zip D.fallen = L at this
  induction L with
  | nil => rfl
  | cons a r ih =>
    rw [List.map_cons, List.sum_cons, this a List.mem_cons_self, ih fun p hp => this p (List.mem_cons_of_mem _ hp)]
    rfl
theorem Gd.done {zs : List Str} {D : Md} {k : Nat} (h : Gd zs D k) {d : Deed} (od : d.Ok zs) (hk : k + 1 ≤ 60) (ln : D.notes.length = zs.length) (lg : D.given.length = zs.length) : Gd zs (doneD zs D d) (k + 1) := by
  have mono : ∀ g ∈ D.given, 0 ≤ g ∧ g ≤ ((k + 1 : Nat) : Int) * 10 ^ 58 := fun g hg => by
    obtain ⟨a, b⟩ := h.gv g hg
    refine ⟨a, Int.le_trans b (Int.mul_le_mul_of_nonneg_right (by omega) (by decide))⟩
  cases d with
  | give z n =>
    refine ⟨h.zf, h.nt, fun g hg => ?_, Nat.le_succ_of_le h.my, hk⟩
    rcases List.mem_or_eq_of_mem_set hg with hg | hg
    · exact mono g hg
    · have hj : zs.idxOf z < D.given.length := by
        rw [lg]
        exact List.idxOf_lt_length_of_mem od.1
      obtain ⟨a, b⟩ := h.gv (D.given.getD (zs.idxOf z) 0) (by
        rw [List.getD_eq_getElem?_getD, List.getElem?_eq_getElem hj]
        exact List.getElem_mem hj)
      obtain ⟨n1, n2⟩ := od.2
      have e : ((k + 1 : Nat) : Int) * 10 ^ 58 = (k : Int) * 10 ^ 58 + 10 ^ 58 := by
        rw [Int.natCast_add, Int.add_mul]
        rfl
      rw [hg, e]
      omega
  | put z y n =>
    have hj : zs.idxOf z < D.notes.length := by
      rw [ln]
      exact List.idxOf_lt_length_of_mem od.1
    refine ⟨h.zf, fun l hl m hm => ?_, mono, ?_, hk⟩
    · rcases List.mem_or_eq_of_mem_set hl with hl | hl
      · exact h.nt l hl m hm
      · rw [hl] at hm
        rcases List.mem_append.mp hm with hm | hm
        · refine h.nt (D.notes.getD (zs.idxOf z) []) ?_ m hm
          rw [List.getD_eq_getElem?_getD, List.getElem?_eq_getElem hj]
          exact List.getElem_mem hj
        · rw [List.mem_singleton.mp hm]
          exact od.2
    · have := sum_set D.notes (zs.idxOf z) (D.notes.getD (zs.idxOf z) [] ++ [(y, n)]) hj
      rw [List.length_append] at this
      have e1 : [(y, n)].length = 1 := rfl
      have := h.my
      show ((D.notes.set _ _).map List.length).sum ≤ k + 1
      omega
theorem Gd.new {zs : List Str} : Gd zs (newMd zs.length) 0 := by
  refine ⟨rfl, fun l hl n hn => ?_, fun g hg => ?_, ?_, by decide⟩
  · rw [List.eq_of_mem_replicate hl] at hn
    cases hn
  · rw [List.eq_of_mem_replicate hg]
    exact ⟨Int.le_refl _, by simp⟩
  · show ((List.replicate zs.length ([] : List (Str × Int))).map List.length).sum ≤ 0
    rw [List.map_replicate]
    simp
theorem Gd.ok {zs : List Str} {D : Md} {k : Nat} (h : Gd zs D k) (nz : NamesOk zs) (lg : D.given.length = zs.length) (ln : D.notes.length = zs.length) : (bkOf zs D).Ok := by
  refine ⟨nz.n0, nz.n1, nz.nd, nz.nm, lg, ln, ?_, ?_⟩
  · show D.fallen.length = _
    rw [h.zf]
    exact List.length_replicate
  · have := h.my
    have := h.k1
    show (D.notes.map List.length).sum ≤ 60
    omega
theorem DpAll.strs {K : PySem.W.Frag} {H : Hp} : ∀ zs : List Str, DpAll K H (zs.map V.str) (zs.map PyData.str)
  | [] => .nil
  | z :: r => .cons (.str z) (DpAll.strs r)
end Rc

namespace Rc
open PySem PySem.Spec PyProof.Rows L2 RZ
theorem Pot.ne {H : Hp} {p b : Addr} (h : Pot H p) (n : H b = none) : b ≠ p := by
  obtain ⟨x, y, e, _⟩ := h
  exact (ne_of_none e n).symm
def rListS (K : PySem.W.Frag) : List V → Hp → VK → Prop := fun xs H Q => ∃ p ys, xs = [.ref p] ∧ (SqL K H p ys ∨ SqT K H p ys) ∧ ∀ l, H l = none → Q (.ref l) (upd H l (.lst ys))
theorem call_listS {X : Cx} {K : PySem.W.Frag} (e : X.K = K) : CallR X (.type "list") (rListS K) := by
  subst e
  exact call_list_of
/-- a def that is called, no repr being under way -/
structure HasG (P : Program) (w : World) (K : PySem.W.Frag) (mg : Str → Option Value) (base : Heap) (k : Nat) (nm : Str) (ps : List Str) (sp : Sp) (f : Addr) (fd : FuncData) : Prop where
  ok : FnG P w K mg base CX0 k f fd ps sp
  g : mg nm = some (.ref f)
  kp : PySem.W.keepIn K (.ref f) = true
  b : Binds K fd ps []
mutual
theorem Dt.dp {K : PySem.W.Frag} {H : Hp} : ∀ {v : V} (d : PyData), tupD d = true → Dt K H v d → Dp K H v d
  | _, .none, _, h => by cases h; exact .non
  | _, .bool _, _, h => by cases h; exact .bl _
  | _, .int _, _, h => by cases h; exact .int _
  | _, .str _, _, h => by cases h; exact .str _
  | _, .list ds, t, h => by simp [tupD] at t
  | _, .dict ps, t, h => by simp [tupD] at t
  | _, .tuple ds, t, h => by
    cases h with
    | tup q a => exact .tup q (DtAll.dp ds (by simpa [tupD] using t) a)
theorem DtAll.dp {K : PySem.W.Frag} {H : Hp} : ∀ {vs : List V} (ds : List PyData), tupDs ds = true → DtAll K H vs ds → DpAll K H vs ds
  | _, [], _, h => by cases h; exact .nil
  | _, d :: ds, t, h => by
    cases h with
    | cons a b =>
      have t' : tupD d = true ∧ tupDs ds = true := by simpa [tupDs] using t
      exact .cons (Dt.dp d t'.1 a) (DtAll.dp ds t'.2 b)
end
theorem tup_key (M : Bk) : tupD (keyD M) = true := by
  have h1 := tup_strs M.names
  have h2 := tup_ints M.gifts
  have h3 := tup_stacks M.stacks
  have h4 := tup_ints M.drops
  unfold keyD
  simp only [tupD, tupDs] at *
  simp [h1, h2, h3, h4]
theorem lay_map {α : Type} {f : α → PyData} : ∀ {l : List α}, (∀ x ∈ l, (f x).canLay0 = true) → PyData.canLayAll0 (l.map f) = true
  | [], _ => rfl
  | x :: r, h => by
    rw [List.map_cons]
    simp only [PyData.canLayAll0, h x List.mem_cons_self, lay_map fun y hy => h y (List.mem_cons_of_mem _ hy), Bool.and_self]
theorem dep_map {α : Type} {f : α → PyData} {n : Nat} : ∀ {l : List α}, (∀ x ∈ l, (f x).depth ≤ n) → PyData.depthAll (l.map f) ≤ n
  | [], _ => Nat.zero_le _
  | x :: r, h => by
    rw [List.map_cons]
    simp only [PyData.depthAll]
    have h1 := h x List.mem_cons_self
    have h2 := dep_map (f := f) fun y hy => h y (List.mem_cons_of_mem _ hy)
    omega
def KeyOk (M : Bk) : Prop := SeqAt.shaped (keyD M) = true
theorem Gd.key {zs : List Str} {D : Md} {k : Nat} (h : Gd zs D k) (nz : NamesOk zs) : KeyOk (bkOf zs D) := by
  have ln : ∀ n : Str × Int, (noteD n).depth = 1 := fun n => by simp [noteD, PyData.depth, PyData.depthAll]
  have ls : ∀ l, (stackD l).depth ≤ 2 := fun l => by
    unfold stackD notesD
    simp only [PyData.depth]
    have := dep_map (f := noteD) (n := 1) (l := l) fun n _ => Nat.le_of_eq (ln n)
    omega
  have c1 : PyData.canLayAll0 (zs.map .str) = true := (nice_names nz.nm).cl
  have c2 : ∀ l : List Int, PyData.canLayAll0 (l.map .int) = true := fun l => lay_map fun x _ => by simp only [PyData.canLay0]
  have c3 : PyData.canLayAll0 (D.notes.map stackD) = true := lay_map fun l hl => by
    unfold stackD
    simp only [PyData.canLay0]
    exact (nice_notes nz.nm (h.nt l hl)).cl
  unfold KeyOk SeqAt.shaped
  have ec : (keyD (bkOf zs D)).canLay0 = true := by
    show (PyData.tuple [.tuple (zs.map .str), .tuple (D.given.map .int), .tuple (D.notes.map stackD), .tuple (D.fallen.map .int)]).canLay0 = true
    simp only [PyData.canLay0, PyData.canLayAll0, c1, c2, c3, Bool.and_self]
  have ed : (keyD (bkOf zs D)).depth ≤ 64 := by
    show (PyData.tuple [.tuple (zs.map .str), .tuple (D.given.map .int), .tuple (D.notes.map stackD), .tuple (D.fallen.map .int)]).depth ≤ 64
    simp only [PyData.depth, PyData.depthAll]
    have d1 := dep_map (f := PyData.str) (n := 0) (l := zs) fun _ _ => by simp only [PyData.depth]; omega
    have d2 := dep_map (f := PyData.int) (n := 0) (l := D.given) fun _ _ => by simp only [PyData.depth]; omega
    have d3 := dep_map (f := stackD) (n := 2) (l := D.notes) fun l _ => ls l
    have d4 := dep_map (f := PyData.int) (n := 0) (l := D.fallen) fun _ _ => by simp only [PyData.depth]; omega
    omega
  rw [ec, decide_eq_true ed]
  rfl
/-- an elder book and its key -/
def Elder (K : PySem.W.Frag) (C : Addr) (H : Hp) (v : V) : Prop := ∃ t b M kv, v = .ref t ∧ SqT K H t [.ref b, kv] ∧ BookAt K C H b M ∧ KeyOk M ∧ Dt K H kv (keyD M)
theorem Elder.keep {K : PySem.W.Frag} {C : Addr} {H H' : Hp} {v : V} (h : Elder K C H v) (k : Kp H H') : Elder K C H' v := by
  obtain ⟨t, b, M, kv, rfl, q, hb, ko, dk⟩ := h
  refine ⟨t, b, M, kv, rfl, ?_, hb.keep k, ko, Dt.keep k _ (tup_key M) dk⟩
  rcases q with (q | ⟨o, q⟩) | q
  · exact .inl (.inl (k _ _ q trivial))
  · exact .inl (.inr ⟨o, k _ _ q trivial⟩)
  · exact .inr q
theorem But.kpP {p : Addr} {H H' : Hp} (b : But p H H') (hp : Pot H p) : Kp H H' := by
  obtain ⟨x, y, e, _⟩ := hp
  exact b.kp e
theorem kp_same {H H' : Hp} (s : Same H H') : Kp H H' := fun b o e _ => s b o e
theorem mem_cut {xs : List V} {lo hi : Option Int} {v : V} (h : v ∈ cutV xs lo hi) : v ∈ xs := by
  unfold cutV at h
  exact List.mem_of_mem_drop (List.mem_of_mem_take h)
theorem op_eqS {X : Cx} {K : PySem.W.Frag} (e : X.K = K) (hu : X.A.units + 64 < cLine) : OpR X (compareOp .Eq) (rEqD K) := by
  subst e
  exact op_eqD hu
theorem len_zero : ∀ (L : List (List (Str × Int) × Int)), (∀ p ∈ L, p.2 = 0 ∧ ∀ n ∈ p.1, 1 ≤ n.2) → (L.flatMap fun p => leftN p.1 p.2).length = (L.map fun p => p.1.length).sum
  | [], _ => rfl
  | p :: r, h => by
    obtain ⟨e, hn⟩ := h p List.mem_cons_self
    have ih := len_zero r fun q hq => h q (List.mem_cons_of_mem _ hq)
    rw [List.flatMap_cons, List.length_append, ih, e, left_zero hn]
    rfl
theorem Gd.len {zs : List Str} {D : Md} {k : Nat} (h : Gd zs D k) (ln : D.notes.length = zs.length) : lenM (bkOf zs D) = (D.notes.map List.length).sum := by
  show (((D.notes.zip D.fallen).take zs.length).flatMap fun p => leftN p.1 p.2).length = _
  have lf : D.fallen.length = zs.length := by
    rw [h.zf]
    exact List.length_replicate
  rw [List.take_of_length_le (by rw [List.length_zip]; omega), len_zero _ fun p hp => ?_]
  · have : (D.notes.zip D.fallen).map (fun p => p.1.length) = ((D.notes.zip D.fallen).map Prod.fst).map List.length := by
      rw [List.map_map]
      rfl
    rw [this, List.map_fst_zip (by omega)]
  · obtain ⟨h1, h2⟩ := List.of_mem_zip hp
    rw [h.zf] at h2
    exact ⟨List.eq_of_mem_replicate h2, fun n hn => (h.nt _ h1 n hn).2.1⟩
/-- the model behind some deeds -/
def mdAt (zs : List Str) (ds : List Deed) : Md := ds.foldl (doneD zs) (newMd zs.length)
theorem done_lens (zs : List Str) (D : Md) (d : Deed) : (doneD zs D d).given.length = D.given.length ∧ (doneD zs D d).notes.length = D.notes.length := by
  cases d with
  | give z n => exact ⟨List.length_set, rfl⟩
  | put z y n => exact ⟨rfl, List.length_set⟩
theorem md_good (zs : List Str) : ∀ (ds : List Deed), (∀ d ∈ ds, d.Ok zs) → ds.length ≤ 60 → ∀ (D : Md) (k : Nat), Gd zs D k → D.given.length = zs.length → D.notes.length = zs.length → k + ds.length ≤ 60 →
    Gd zs (ds.foldl (doneD zs) D) (k + ds.length)
  | [], _, _, D, k, g, _, _, _ => g
  | d :: ds, h, hl, D, k, g, lg, ln, hk => by
    rw [List.length_cons] at hl hk
    obtain ⟨a, b⟩ := done_lens zs D d
    have := md_good zs ds (fun e he => h e (List.mem_cons_of_mem _ he)) (by omega) (doneD zs D d) (k + 1) (g.done (h d List.mem_cons_self) (by omega) ln lg) (by rw [a, lg]) (by rw [b, ln]) (by omega)
    rw [List.length_cons, Nat.add_comm ds.length 1, ← Nat.add_assoc]
    exact this
theorem md_at_good {zs : List Str} {ds : List Deed} (h : ∀ d ∈ ds, d.Ok zs) (hl : ds.length ≤ 60) : Gd zs (mdAt zs ds) ds.length := by
  have := md_good zs ds h hl (newMd zs.length) 0 Gd.new List.length_replicate List.length_replicate (by omega)
  rw [Nat.zero_add] at this
  exact this
end Rc

namespace Rc
open PySem PySem.Spec PyProof.Rows L2 RZ
theorem md_ext {A B : Md} (h1 : A.given = B.given) (h2 : A.fallen = B.fallen) (h3 : A.notes = B.notes) : A = B := by
  cases A
  cases B
  cases h1
  cases h2
  cases h3
  rfl
section
variable {K : PySem.W.Frag} {H : Hp} {zs : List Str} {a : MdA} {D : Md}
theorem ModelAt.row_some (h : ModelAt K H zs a D) {r : Addr} (m : r ∈ a.rs) : ∃ xs, H r = some (.lst xs) := by
  obtain ⟨i, hi, e'⟩ := List.getElem_of_mem m
  have hn : i < D.notes.length := by
    rw [h.ln, ← h.lr]
    exact hi
  obtain ⟨xs, e1, _⟩ := h.rows i r _ (by rw [List.getElem?_eq_getElem hi, e']) (List.getElem?_eq_getElem hn)
  exact ⟨xs, e1⟩
theorem ModelAt.nofoot (h : ModelAt K H zs a D) {c : Addr} (hc : H c = none) : ¬ a.Foot c := fun f => by
  rcases f with f | f
  · rw [f, h.hg] at hc
    cases hc
  · obtain ⟨xs, e⟩ := h.row_some f
    rw [hc] at e
    cases e
theorem MdA.Foot.has {b : Addr} (h : a.Foot b) : a.Has b := h.elim (fun e => .inr (.inr (.inl e))) (fun e => .inr (.inr (.inr (.inr (.inr e)))))
/-- another sum given -/
theorem ModelAt.setG (hM : ModelAt K H zs a D) {j : Nat} (g : Int) : ModelAt K (upd H a.dg (.dK (dct zs ((D.given.set j g).map V.int)))) zs a { D with given := D.given.set j g } := by
  have bf' : ButF a H (upd H a.dg (.dK (dct zs ((D.given.set j g).map V.int)))) := fun b o nf e => by
    rw [upd_ne (fun z => nf (.inl z))]
    exact e
  have rne : ∀ r ∈ a.rs, r ≠ a.dg := fun r hr z => by
    obtain ⟨xs, e1⟩ := hM.row_some hr
    rw [z, hM.hg] at e1
    cases e1
  have lone : a.lo ≠ a.dg := fun z => by
    have := hM.ho
    rw [z, hM.hg] at this
    cases this
  refine ⟨?_, ?_, ?_, ?_, ?_, fun i r l e1 e2 => ?_, hM.nd, hM.olo, hM.ogf, hM.ogn, hM.ogm, hM.omn, hM.zn, ?_, hM.lf, hM.ln, hM.lr⟩
  · rw [upd_ne hM.ogm.symm]
    exact hM.hm
  · rw [upd_ne lone]
    exact hM.ho
  · rw [upd_same]
  · rw [upd_ne hM.ogf.symm]
    exact hM.hf
  · rw [upd_ne hM.ogn.symm]
    exact hM.hn
  · obtain ⟨xs, e3, d3⟩ := hM.rows i r l e1 e2
    refine ⟨xs, ?_, DtAll.keepT (bf'.kt hM) _ (tup_notes l) d3⟩
    rw [upd_ne (rne r (List.mem_of_getElem? e1))]
    exact e3
  · show (D.given.set _ _).length = _
    rw [List.length_set]
    exact hM.lg
theorem nodup_set {α : Type} : ∀ {l : List α} {j : Nat} {r : α}, l.Nodup → r ∉ l → (l.set j r).Nodup
  | [], _, _, nd, _ => nd
  | x :: t, 0, r, nd, n => List.nodup_cons.mpr ⟨fun h => n (List.mem_cons_of_mem _ h), (List.nodup_cons.mp nd).2⟩
  | x :: t, j + 1, r, nd, n => by
    obtain ⟨h1, h2⟩ := List.nodup_cons.mp nd
    refine List.nodup_cons.mpr ⟨fun h => ?_, nodup_set h2 fun h => n (List.mem_cons_of_mem _ h)⟩
    rcases List.mem_or_eq_of_mem_set h with h | h
    · exact h1 h
    · exact n (by rw [h]; exact List.mem_cons_self)
theorem ModelAt.ofn (h : ModelAt K H zs a D) (n0 : 1 ≤ zs.length) : a.df ≠ a.dn := fun z => by
  have e := h.hf
  rw [z, h.hn] at e
  have e1 : dct zs (a.rs.map V.ref) = dct zs (D.fallen.map V.int) := HO.dK.inj (Option.some.inj e)
  have l1 := h.lr
  have l2 := h.lf
  match zs, a.rs, D.fallen, n0, l1, l2, e1 with
  | z :: r, x :: t, y :: u, _, _, _, e1 => 
    rw [List.map_cons, List.map_cons, dct_cons, dct_cons] at e1
    cases e1
/-- another row of notes -/
theorem ModelAt.setN (hM : ModelAt K H zs a D) {j : Nat} {r : Addr} {xs : List V} {l : List (Str × Int)} (hr : H r = some (.lst xs)) (hd : DtAll K H xs (notesD l)) (nr : r ∉ a.rs) (nlo : a.lo ≠ r) (n0 : 1 ≤ zs.length) :
    ModelAt K (upd H a.dn (.dK (dct zs ((a.rs.set j r).map V.ref)))) zs { a with rs := a.rs.set j r } { D with notes := D.notes.set j l } := by
  have kt : KT H (upd H a.dn (.dK (dct zs ((a.rs.set j r).map V.ref)))) := kt_upd hM.hn fun z => z
  have lne : ∀ {c : Addr} {ys : List V}, H c = some (.lst ys) → c ≠ a.dn := fun {c ys} e z => by
    rw [z, hM.hn] at e
    cases e
  refine ⟨?_, ?_, ?_, ?_, ?_, fun i r' l' e1 e2 => ?_, nodup_set hM.nd nr, fun m => ?_, hM.ogf, hM.ogn, hM.ogm, hM.omn, hM.zn, hM.lg, hM.lf, ?_, ?_⟩
  · show upd H a.dn _ a.m = _
    rw [upd_ne hM.omn]
    exact hM.hm
  · show upd H a.dn _ a.lo = _
    rw [upd_ne (lne hM.ho)]
    exact hM.ho
  · show upd H a.dn _ a.dg = _
    rw [upd_ne hM.ogn]
    exact hM.hg
  · show upd H a.dn _ a.df = _
    rw [upd_ne (hM.ofn n0)]
    exact hM.hf
  · exact upd_same
  · have e1' : (a.rs.set j r)[i]? = some r' := e1
    have e2' : (D.notes.set j l)[i]? = some l' := e2
    by_cases hij : j = i
    · subst hij
      obtain ⟨h1, k1⟩ := List.getElem?_eq_some_iff.mp e1'
      obtain ⟨h2, k2⟩ := List.getElem?_eq_some_iff.mp e2'
      rw [List.getElem_set_self] at k1 k2
      subst k1 k2
      refine ⟨xs, ?_, DtAll.keepT kt _ (tup_notes _) hd⟩
      show upd H a.dn _ _ = _
      rw [upd_ne (lne hr)]
      exact hr
    · rw [List.getElem?_set_ne hij] at e1' e2'
      obtain ⟨ys, e3, d3⟩ := hM.rows i r' l' e1' e2'
      refine ⟨ys, ?_, DtAll.keepT kt _ (tup_notes _) d3⟩
      show upd H a.dn _ _ = _
      rw [upd_ne (lne e3)]
      exact e3
  · have m' : a.lo ∈ a.rs.set j r := m
    rcases List.mem_or_eq_of_mem_set m' with m' | m'
    · exact hM.olo m'
    · exact nlo m'
  · show (D.notes.set _ _).length = _
    rw [List.length_set]
    exact hM.ln
  · show (a.rs.set _ _).length = _
    rw [List.length_set]
    exact hM.lr
end
end Rc

namespace Rc
open PySem PySem.Spec PyProof.Rows L2 RZ
/-! ### trails -/
def trailF (nx : Str → Option Str) : Nat → List Str → Option Str → List Str
  | 0, acc, _ => acc
  | _ + 1, acc, none => acc
  | k + 1, acc, some y => if y ∈ acc then acc else trailF nx k (acc ++ [y]) (nx y)
theorem trailF_none (nx : Str → Option Str) (k : Nat) (acc : List Str) : trailF nx k acc none = acc := by cases k <;> rfl
theorem trailF_in {nx : Str → Option Str} {k : Nat} {acc : List Str} {y : Str} (h : y ∈ acc) : trailF nx k acc (some y) = acc := by
  cases k with
  | zero => rfl
  | succ k =>
    simp only [trailF]
    rw [if_pos h]
theorem trailF_out {nx : Str → Option Str} {k : Nat} {acc : List Str} {y : Str} (h : y ∉ acc) : trailF nx (k + 1) acc (some y) = trailF nx k (acc ++ [y]) (nx y) := by
  simp only [trailF]
  rw [if_neg h]
def trailM (zs : List Str) (nx : Str → Option Str) (z : Str) : List Str := trailF nx zs.length [z] (nx z)
/-- a walk under way -/
structure TrailAt (zs : List Str) (nx : Str → Option Str) (z : Str) (k : Nat) (acc : List Str) (d : Option Str) : Prop where
  fin : trailF nx k acc d = trailM zs nx z
  nd : acc.Nodup
  sub : ∀ y ∈ acc, y ∈ zs
  len : zs.length ≤ acc.length + k
  last : ∃ ini y, acc = ini ++ [y] ∧ d = nx y
  first : ∃ r, acc = z :: r
def Leads (zs : List Str) (nx : Str → Option Str) : Prop := ∀ y x, nx y = some x → x ∈ zs
theorem TrailAt.start {zs : List Str} {nx : Str → Option Str} {z : Str} (h : z ∈ zs) : TrailAt zs nx z zs.length [z] (nx z) :=
  ⟨rfl, by simp, fun y hy => by rw [List.mem_singleton.mp hy]; exact h, by simp, ⟨[], z, rfl, rfl⟩, ⟨[], rfl⟩⟩
theorem TrailAt.step {zs : List Str} {nx : Str → Option Str} {z : Str} {k : Nat} {acc : List Str} {y : Str} (t : TrailAt zs nx z k acc (some y)) (c : Leads zs nx) (h : y ∉ acc) : ∃ k', k = k' + 1 ∧ TrailAt zs nx z k' (acc ++ [y]) (nx y) := by
  have hy : y ∈ zs := by
    obtain ⟨_, x, _, e⟩ := t.last
    exact c x y e.symm
  have nd : (acc ++ [y]).Nodup := by
    rw [List.nodup_append]
    refine ⟨t.nd, by simp, fun a ha b hb e => ?_⟩
    rw [List.mem_singleton.mp hb] at e
    exact h (e ▸ ha)
  have sub : ∀ x ∈ acc ++ [y], x ∈ zs := fun x hx => by
    rcases List.mem_append.mp hx with hx | hx
    · exact t.sub x hx
    · rw [List.mem_singleton.mp hx]
      exact hy
  have ll := nodup_le _ _ nd sub
  rw [List.length_append] at ll
  have l1 : [y].length = 1 := rfl
  have tl := t.len
  cases k with
  | zero => omega
  | succ k =>
    refine ⟨k, rfl, ?_, nd, sub, by rw [List.length_append]; omega, ⟨acc, y, rfl, rfl⟩, ?_⟩
    · rw [← t.fin, trailF_out h]
    · obtain ⟨r, e⟩ := t.first
      exact ⟨r ++ [y], by rw [e]; rfl⟩
theorem TrailAt.stopN {zs : List Str} {nx : Str → Option Str} {z : Str} {k : Nat} {acc : List Str} (t : TrailAt zs nx z k acc none) : acc = trailM zs nx z := by
  rw [← t.fin, trailF_none]
theorem TrailAt.stopI {zs : List Str} {nx : Str → Option Str} {z : Str} {k : Nat} {acc : List Str} {y : Str} (t : TrailAt zs nx z k acc (some y)) (h : y ∈ acc) : acc = trailM zs nx z := by
  rw [← t.fin, trailF_in h]
/-- where a walk has ended -/
structure Ended (zs : List Str) (nx : Str → Option Str) (z : Str) (d : Option Str) : Prop where
  nd : (trailM zs nx z).Nodup
  sub : ∀ y ∈ trailM zs nx z, y ∈ zs
  last : ∃ ini y, trailM zs nx z = ini ++ [y] ∧ d = nx y
  first : ∃ r, trailM zs nx z = z :: r
  back : ∀ y, d = some y → y ∈ trailM zs nx z
theorem TrailAt.ended {zs : List Str} {nx : Str → Option Str} {z : Str} {k : Nat} {acc : List Str} {d : Option Str} (t : TrailAt zs nx z k acc d) (h : d = none ∨ ∃ y, d = some y ∧ y ∈ acc) : acc = trailM zs nx z ∧ Ended zs nx z d := by
  have e : acc = trailM zs nx z := by
    rcases h with rfl | ⟨y, rfl, h⟩
    · exact t.stopN
    · exact t.stopI h
  refine ⟨e, ?_⟩
  refine ⟨by rw [← e]; exact t.nd, by rw [← e]; exact t.sub, by rw [← e]; exact t.last, by rw [← e]; exact t.first, fun y hy => ?_⟩
  rw [← e]
  rcases h with rfl | ⟨x, rfl, h⟩
  · cases hy
  · cases hy
    exact h
theorem walk_ends {zs : List Str} {nx : Str → Option Str} {z : Str} (c : Leads zs nx) : ∀ (k : Nat) (acc : List Str) (d : Option Str), TrailAt zs nx z k acc d → ∃ d', Ended zs nx z d' := fun k => by
  induction k with
  | zero =>
    intro acc d t
    cases d with
    | none => exact ⟨_, (t.ended (.inl rfl)).2⟩
    | some y =>
      by_cases h : y ∈ acc
      · exact ⟨_, (t.ended (.inr ⟨y, rfl, h⟩)).2⟩
      · obtain ⟨k', e, _⟩ := t.step c h
        cases e
  | succ k ih =>
    intro acc d t
    cases d with
    | none => exact ⟨_, (t.ended (.inl rfl)).2⟩
    | some y =>
      by_cases h : y ∈ acc
      · exact ⟨_, (t.ended (.inr ⟨y, rfl, h⟩)).2⟩
      · obtain ⟨k', e, t'⟩ := t.step c h
        cases e
        exact ih _ _ t'
/-- the last person of the trail, and what is due of it -/
def lastM (zs : List Str) (nx : Str → Option Str) (z : Str) : Str := (trailM zs nx z).getLastD z
theorem lastM_eq {zs : List Str} {nx : Str → Option Str} {z y : Str} {ini : List Str} (h : trailM zs nx z = ini ++ [y]) : lastM zs nx z = y := by
  unfold lastM
  rw [h]
  simp
theorem trail_ended {zs : List Str} {nx : Str → Option Str} {z : Str} (c : Leads zs nx) (h : z ∈ zs) : Ended zs nx z (nx (lastM zs nx z)) := by
  obtain ⟨d, e⟩ := walk_ends c _ _ _ (TrailAt.start (nx := nx) h)
  obtain ⟨ini, y, e1, e2⟩ := e.last
  rw [lastM_eq e1, ← e2]
  exact e
theorem Ended.det {zs : List Str} {nx : Str → Option Str} {z : Str} {d : Option Str} (e : Ended zs nx z d) : d = nx (lastM zs nx z) := by
  obtain ⟨ini, y, e1, e2⟩ := e.last
  rw [lastM_eq e1, e2]
/-! ### rings -/
def firstM (zs T : List Str) : Str := (zs.find? fun x => decide (x ∈ T)).getD Str.empty
def ringM (zs : List Str) (nx : Str → Option Str) (z : Str) : Option (List Str) :=
  if nx (lastM zs nx z) = some z then
    some ((trailM zs nx z).drop ((trailM zs nx z).idxOf (firstM zs (trailM zs nx z))) ++ (trailM zs nx z).take ((trailM zs nx z).idxOf (firstM zs (trailM zs nx z))))
  else none
/-- at whom the trail ends -/
def endM (zs : List Str) (nx : Str → Option Str) (z : Str) : Option Str := if nx (lastM zs nx z) = none then some (lastM zs nx z) else none
theorem find_some {zs T : List Str} {z : Str} (h1 : z ∈ zs) (h2 : z ∈ T) : ∃ f r, (zs.filter fun x => decide (x ∈ T)) = f :: r ∧ firstM zs T = f ∧ f ∈ T ∧ f ∈ zs := by
  have hm : z ∈ zs.filter fun x => decide (x ∈ T) := List.mem_filter.mpr ⟨h1, decide_eq_true h2⟩
  cases e : zs.filter fun x => decide (x ∈ T) with
  | nil =>
    rw [e] at hm
    cases hm
  | cons f r =>
    have hf : f ∈ zs.filter fun x => decide (x ∈ T) := by
      rw [e]
      exact List.mem_cons_self
    obtain ⟨a, b⟩ := List.mem_filter.mp hf
    refine ⟨f, r, rfl, ?_, of_decide_eq_true b, a⟩
    unfold firstM
    rw [← List.head?_filter, e]
    rfl
/-- the first by its least place -/
theorem first_min {zs T : List Str} {m : Nat} {z : Str} (nd : zs.Nodup) (hz : zs[m]? = some z) (hT : z ∈ T) (hm : ∀ y ∈ T, m ≤ zs.idxOf y) : firstM zs T = z := by
  unfold firstM
  have hl : m < zs.length := (List.getElem?_eq_some_iff.mp hz).1
  have ez : zs[m] = z := (List.getElem?_eq_some_iff.mp hz).2
  have e : zs.find? (fun x => decide (x ∈ T)) = some z := by
    rw [List.find?_eq_some_iff_getElem]
    refine ⟨decide_eq_true hT, m, hl, ez, fun j hj => ?_⟩
    have hjl : j < zs.length := by omega
    have : ¬ zs[j] ∈ T := fun c => by
      have h1 := hm _ c
      rw [nd.idxOf_getElem j hjl] at h1
      omega
    simp [this]
  rw [e]
  rfl
/-! ### due notes -/
def dueD : Option (Str × Int) → PyData
  | none => .none
  | some n => noteD n
theorem tup_due (o : Option (Str × Int)) : tupD (dueD o) = true := by
  cases o with
  | none => rfl
  | some n => exact tup_note n
def duesM (M : Bk) : List (Option (Str × Int)) := (M.stacks.zip M.drops).map fun p => (leftN p.1 p.2).head?
def nxOf (zs : List Str) (os : List (Option (Str × Int))) (y : Str) : Option Str := (os.getD (zs.idxOf y) none).map (·.1)
def nxV : Option Str → V
  | none => .non
  | some y => .str y
theorem nxV_non {o : Option Str} : nxV o = .non ↔ o = none := by
  cases o with
  | none => simp [nxV]
  | some y => simp [nxV]
theorem leftN_to : ∀ {l : List (Str × Int)} {f : Int} {n : Str × Int}, n ∈ leftN l f → ∃ a, (n.1, a) ∈ l
  | [], _, _, h => by cases h
  | (t, a) :: r, f, n, h => by
    rw [leftN_cons] at h
    rcases List.mem_append.mp h with h | h
    · split at h
      · rw [List.mem_singleton.mp h]
        exact ⟨a, List.mem_cons_self⟩
      · cases h
    · obtain ⟨b, hb⟩ := leftN_to h
      exact ⟨b, List.mem_cons_of_mem _ hb⟩
def Closed (M : Bk) : Prop := ∀ l ∈ M.stacks, ∀ n ∈ l, n.1 ∈ M.names
theorem dues_at {M : Bk} {j : Nat} {l : List (Str × Int)} {f : Int} (h1 : M.stacks[j]? = some l) (h2 : M.drops[j]? = some f) : (duesM M)[j]? = some (leftN l f).head? := by
  unfold duesM
  rw [List.getElem?_map, List.getElem?_zip_eq_some (z := (l, f)) |>.mpr ⟨h1, h2⟩]
  rfl
theorem dues_mem {M : Bk} {n : Str × Int} (h : some n ∈ duesM M) : ∃ l f, l ∈ M.stacks ∧ f ∈ M.drops ∧ n ∈ leftN l f := by
  unfold duesM at h
  obtain ⟨p, hp, e⟩ := List.mem_map.mp h
  obtain ⟨h1, h2⟩ := List.of_mem_zip hp
  exact ⟨p.1, p.2, h1, h2, List.mem_of_head? e⟩
theorem getD_mem {α : Type} {l : List (Option α)} {j : Nat} {x : α} (h : l.getD j none = some x) : some x ∈ l := by
  rw [List.getD_eq_getElem?_getD] at h
  cases e : l[j]? with
  | none =>
    rw [e] at h
    cases h
  | some y =>
    rw [e] at h
    have h' : y = some x := h
    rw [← h']
    exact List.mem_of_getElem? e
theorem Closed.leads {M : Bk} (c : Closed M) : Leads M.names (nxOf M.names (duesM M)) := fun y x h => by
  unfold nxOf at h
  obtain ⟨n, e1, e2⟩ := Option.map_eq_some_iff.mp h
  obtain ⟨l, f, hl, hf, hn⟩ := dues_mem (getD_mem e1)
  obtain ⟨a, ha⟩ := leftN_to hn
  rw [← e2]
  exact c l hl (n.1, a) ha
/-! ### what falls of a due note -/
def wholeN (l : List (Str × Int)) : Int := (l.map (·.2)).sum
theorem wholeN_nonneg {l : List (Str × Int)} (h : ∀ n ∈ l, 1 ≤ n.2) : 0 ≤ wholeN l := by
  induction l with
  | nil => exact Int.le_refl _
  | cons n r ih =>
    have := ih fun m hm => h m (List.mem_cons_of_mem _ hm)
    have h1 := h n List.mem_cons_self
    show 0 ≤ ((n :: r).map (·.2)).sum
    rw [List.map_cons, List.sum_cons]
    have e : wholeN r = (r.map (·.2)).sum := rfl
    omega
theorem wholeN_cons (n : Str × Int) (r : List (Str × Int)) : wholeN (n :: r) = n.2 + wholeN r := by
  unfold wholeN
  rw [List.map_cons, List.sum_cons]
theorem sumTo_one (z t : Str) (a : Int) (h : 0 ≤ a) : sumTo z (if 0 < a then [(t, a)] else []) = if t = z then a else 0 := by
  unfold sumTo
  by_cases h0 : 0 < a
  · rw [if_pos h0]
    by_cases hz : t = z <;> simp [hz]
  · have : a = 0 := by omega
    rw [if_neg h0, this]
    split <;> rfl
theorem sumTo_app (z : Str) (l r : List (Str × Int)) : sumTo z (l ++ r) = sumTo z l + sumTo z r := by
  unfold sumTo
  rw [List.filter_append, List.map_append, List.sum_append]
theorem sumTo_nil (z : Str) : sumTo z [] = 0 := rfl
theorem fall_one : ∀ {l : List (Str × Int)} {f m a : Int} {t : Str} {r : List (Str × Int)}, (∀ n ∈ l, 1 ≤ n.2) → 0 ≤ f → 0 ≤ m → m ≤ a → leftN l f = (t, a) :: r →
    f + m ≤ wholeN l ∧ ∀ z, sumTo z (goneN l (f + m)) = sumTo z (goneN l f) + if t = z then m else 0
  | [], _, _, _, _, _, _, _, _, _, e => by cases e
  | (t0, a0) :: r0, f, m, a, t, r, h, f0, m0, ma, e => by
    have h0 : 1 ≤ a0 := h _ List.mem_cons_self
    have hr : ∀ n ∈ r0, 1 ≤ n.2 := fun n hn => h n (List.mem_cons_of_mem _ hn)
    have wr := wholeN_nonneg hr
    rw [wholeN_cons]
    rw [leftN_cons] at e
    by_cases hf : f < a0
    · have ep : partOf a0 f = f := by
        unfold partOf
        rw [if_pos hf]
      rw [ep, if_pos hf, Int.sub_self] at e
      have e' : (t0, a0 - f) :: leftN r0 0 = (t, a) :: r := e
      injection e' with e1 e2
      injection e1 with e1 e3
      subst e1 e3
      have ep2 : partOf a0 (f + m) = f + m := by
        unfold partOf
        split <;> omega
      refine ⟨by show f + m ≤ a0 + wholeN r0; omega, fun z => ?_⟩
      rw [goneN_cons, goneN_cons, ep, ep2, Int.sub_self, Int.sub_self, gone_zero hr, List.append_nil, List.append_nil, sumTo_one z t0 _ (by omega), sumTo_one z t0 _ f0]
      split <;> omega
    · have ep : partOf a0 f = a0 := by
        unfold partOf
        rw [if_neg hf]
      have ep2 : partOf a0 (f + m) = a0 := by
        unfold partOf
        rw [if_neg (by omega)]
      rw [ep, if_neg (by omega)] at e
      have e' : leftN r0 (f - a0) = (t, a) :: r := e
      obtain ⟨i1, i2⟩ := fall_one hr (by omega) m0 ma e'
      refine ⟨by show f + m ≤ a0 + wholeN r0; omega, fun z => ?_⟩
      rw [goneN_cons, goneN_cons, ep, ep2, sumTo_app, sumTo_app, show f + m - a0 = f - a0 + m by omega, i2 z]
      omega
theorem leftN_ok {zs : List Str} : ∀ {l : List (Str × Int)} {f : Int}, (∀ n ∈ l, NoteOk zs n) → 0 ≤ f → ∀ n ∈ leftN l f, NoteOk zs n
  | [], _, _, _, n, hn => by cases hn
  | (t, a) :: r, f, h, f0, n, hn => by
    have h0 := h _ List.mem_cons_self
    have ha : 1 ≤ a ∧ a ≤ 10 ^ 58 := h0.2
    have hp : 0 ≤ partOf a f ∧ partOf a f ≤ f := by
      unfold partOf
      split <;> omega
    rw [leftN_cons] at hn
    rcases List.mem_append.mp hn with hn | hn
    · split at hn
      · rename_i c
        rw [List.mem_singleton.mp hn]
        exact ⟨h0.1, by show 1 ≤ a - partOf a f; omega, by show a - partOf a f ≤ 10 ^ 58; omega⟩
      · cases hn
    · exact leftN_ok (fun m hm => h m (List.mem_cons_of_mem _ hm)) (by omega) n hn
end Rc

namespace Rc
open PySem PySem.Spec PyProof.Rows L2 RZ
/-! ### what is let fall -/
def moreAt (ps : List (Str × Int)) (z : Str) : Int := ((ps.find? fun p => decide (p.1 = z)).map (·.2)).getD 0
def moreK (ps : List (Str × Int)) : List (Key × V) := ps.map fun p => (Sum.inr p.1, .int p.2)
def fallM (M : Bk) (ps : List (Str × Int)) : Bk := { M with drops := (M.names.zip M.drops).map fun p => p.2 + moreAt ps p.1 }
theorem more_val (z : Str) : ∀ ps : List (Str × Int), (valV (moreK ps) (Sum.inr z : Key)).getD (.int 0) = .int (moreAt ps z)
  | [] => rfl
  | p :: r => by
    have ih := more_val z r
    show (valV ((Sum.inr p.1, V.int p.2) :: moreK r) (Sum.inr z : Key)).getD (.int 0) = .int (moreAt (p :: r) z)
    unfold moreAt
    by_cases h : p.1 = z
    · rw [valV_pos (show ((Sum.inr p.1 : Key), V.int p.2).1 = Sum.inr z from congrArg Sum.inr h), List.find?_cons_of_pos (by simp [h])]
      rfl
    · rw [valV_neg (fun e => h (Sum.inr.inj e)), ih, List.find?_cons_of_neg (by simp [h])]
      rfl
structure FallOk (M : Bk) (ps : List (Str × Int)) : Prop where
  kd : ∀ p ∈ ps, ∃ (j : Nat) (l : List (Str × Int)) (f : Int), M.names[j]? = some p.1 ∧ M.stacks[j]? = some l ∧ M.drops[j]? = some f ∧ 0 ≤ p.2 ∧ f + p.2 ≤ wholeN l
  cs : ∀ (j : Nat) (z : Str), M.names[j]? = some z → 0 ≤ cashM (fallM M ps) j z
theorem fall_ok {M : Bk} (ok : M.Ok) (ps : List (Str × Int)) : (fallM M ps).Ok := by
  refine ⟨ok.n0, ok.n1, ok.nd, ok.nm, ok.lg, ok.ls, ?_, ok.many⟩
  show ((M.names.zip M.drops).map _).length = _
  rw [List.length_map, List.length_zip, ok.ld, Nat.min_self]
  rfl
theorem same_unlock {H H' : Hp} {d : Addr} {od : Obj} {u : HO} (h : H d = some u) (s : Same (upd H d (.frz od u)) H') : Same H (upd H' d u) := fun b o e => by
  by_cases c : b = d
  · rw [c, h] at e
    rw [c, upd_same]
    exact e
  · rw [upd_ne c]
    exact s b o (by rw [upd_ne c]; exact e)
theorem kp_lock {H : Hp} {d : Addr} {od : Obj} {kvs : List (Key × V)} (h : H d = some (.dK kvs)) : Kp H (upd H d (.frz od (.dK kvs))) := fun b o e f => by
  have nb : b ≠ d := fun z => by
    rw [z, h] at e
    cases e
    exact f
  rw [upd_ne nb]
  exact e
section
variable {P : Program} {w : World} {K : PySem.W.Frag} {mg : Str → Option Value} {base : Heap}
/-! ### whole_of -/
abbrev sWhOf : Stmt := inBook 9
abbrev nWhOf : List Str := ["self", "who", "to", "amount"]
theorem scWhOf : FnScope nWhOf ["self", "who"] (defScope sWhOf) := ⟨rfl, rfl, rfl, by decide +kernel, rfl, by decide +kernel, by decide +kernel⟩
theorem ok_whOf {f fn C : Addr} {fd fdn : FuncData} (F : Fun K "whole_of" "Book.whole_of" sWhOf f fd) (T : ClsF K C) (B3 : Blt3 mg) (NT : HasM P w K mg base C 4 "notes" ["self", "who"] (spRow K C fun l _ => l) fn fdn) :
    FnOk P w K mg base CX0 5 f fd ["self", "who"] (spCalc K C fun M j _ => wholeN (M.stacks.getD j [])) := by
  refine F.ok scWhOf (fun vs H Q E h => ?_) (fun cdv A outer s H vs Q E hr h => ?_)
  · obtain ⟨_, _, _, _, rfl, _⟩ := h
    rfl
  · obtain ⟨b, M, z, j, rfl, hb, ok, ej, q⟩ := h
    refine ⟨_, pss_one (ps_ret (pe_callB (cr_sum rfl) (by rfl) B3.sum (by decide +kernel) (pa_cons
          (pe_lc (own := [("to", 2), ("amount", 3)]) (g := gTup K 2 (gCons (gName 2) (gCons (gName 3) gNil))) (tt := tYes) rfl scWhOf.nd (pi_list (pe_meth (pv 0) T.cl NT.m NT.ok hr NT.b .nil pass0 (pa_cons (pv 1) pa_nil))) (blkOk_by (N := nWhOf) (sc := defScope sWhOf) (own := [("to", 2), ("amount", 3)]) (by decide +kernel))
            (fun _ _ _ _ _ => pg_tup rfl (pgs_cons (pg_name (i := 2) scWhOf.nd rfl (.inl rfl) (hf := .inr rfl)) (pgs_cons (pg_name (i := 3) scWhOf.nd rfl (.inl rfl) (hf := .inr rfl)) pgs_nil)))
            (fun _ _ _ _ _ => pts_nil) (fun _ _ _ _ _ => pv 3)) pa_nil))), ?_⟩
    obtain ⟨g, l, d, eg, el, ed, ll⟩ := ok.at_ ej
    obtain ⟨dx, tn, on, wg, ws, wd, e, h1, hn, h2, h3, h4⟩ := hb.ex
    refine ⟨.ref b, rfl, b, dx, _, rfl, e, bf_no (NoF.mk' (by decide +kernel)), .str z, rfl, b, M, z, j, l, d, rfl, hb, ok.names, ej, el, ed, by omega, fun r xs H1 s1 nr hr1 dr => ⟨r, rfl, ⟨_, .inl (.inl hr1)⟩, fun D nD => ?_⟩⟩
    have lx : xs.length = l.length := by
      rw [dr.len]
      unfold notesD
      rw [List.length_map]
    refine lc_it (walk_list (K := K) (a := r) (xs := xs)) (fun i H' => Same H1 H' ∧ H' D = some (.lst ((l.take i).map fun n => .int n.2))) ⟨same_upd nD, upd_same⟩ (fun i H' _ hP => hP.1.seq (.inl (.inl hr1)))
      (fun i x H2' H2 hi hP hY => ?_) (fun H2 hP => ?_)
    · obtain ⟨rfl, hx⟩ := hY
      obtain ⟨hil, dn⟩ := (DtAll.same hP.1 _ dr).notes_get hx
      obtain ⟨na, rfl, qn⟩ := note_inv dn
      refine ⟨na, _, rfl, qn, rfl, _, _, rfl, _, _, rfl, rfl, rfl, _, rfl, _, hP.2, ?_, fun c o ec => ?_, ?_⟩
      · rw [List.length_map, List.length_take]
        exact small1000 (by omega)
      · rw [upd_ne (ne_of_none ec nD)]
        exact hP.1 c o ec
      · rw [upd_same, take_succ hil, List.map_append]
        rfl
    · refine ⟨D, l.map (·.2), rfl, .inl (.inl ?_), ?_⟩
      · rw [hP.2, lx, List.take_length, List.map_map]
        rfl
      have qq : Q (V.int (wholeN (M.stacks.getD j []))) H2 := q H2 (s1.trans hP.1)
      rw [getD_of el] at qq
      exact qq
/-! ### may_fall -/
abbrev sMayF : Stmt := inBook 14
abbrev nMayF : List Str := ["self", "more", "who", "much"]
theorem scMayF : FnScope nMayF ["self", "more"] (defScope sMayF) := ⟨rfl, rfl, rfl, by decide +kernel, rfl, by decide +kernel, by decide +kernel⟩
def spMayF (K : PySem.W.Frag) (C : Addr) : Sp := fun vs H Q _ => ∃ (b d : Addr) (M : Bk) (ps : List (Str × Int)), vs = [.ref b, .ref d] ∧ BookAt K C H b M ∧ M.Ok ∧ H d = some (.dK (moreK ps)) ∧ FallOk M ps ∧ ∀ H', Same H H' → Q (.bl true) H'
theorem ok_mayF {f f1 f2 f3 f4 C : Addr} {fd fd1 fd2 fd3 fd4 : FuncData} (F : Fun K "may_fall" "Book.may_fall" sMayF f fd) (T : ClsF K C) (B : Blt mg) (B3 : Blt3 mg)
    (HS : HasM P w K mg base C 2 "has" ["self", "who"] (spHas K C) f1 fd1) (WH : Has P w K mg base 1 "is_whole" ["thing"] (spBool K wholeD) f2 fd2)
    (FL : HasM P w K mg base C 4 "fallen" ["self", "who"] (spNum K C Bk.drops) f3 fd3) (WO : HasM P w K mg base C 5 "whole_of" ["self", "who"] (spCalc K C fun M j _ => wholeN (M.stacks.getD j [])) f4 fd4) :
    FnOk P w K mg base CX0 6 f fd ["self", "more"] (spMayF K C) := by
  refine F.ok scMayF (fun vs H Q E h => ?_) (fun cdv A outer s H vs Q E hr h => ?_)
  · obtain ⟨_, _, _, _, rfl, _⟩ := h
    rfl
  · obtain ⟨b, d, M, ps, rfl, hb, ok, hd, fo, q⟩ := h
    have hr1 := hr.mono (show 1 ≤ 5 by decide)
    have hr2 := hr.mono (show 2 ≤ 5 by decide)
    have hr4 := hr.mono (show 4 ≤ 5 by decide)
    refine ⟨_, pss_cons (ps_if (pt_not (pt_val (pe_callB call_isi (by rfl) B.isi (by decide +kernel) (pa_cons (pv 1) (pa_cons (pe_bltn (v := .ty "dict") (by rfl) B3.dict (by decide +kernel) rfl) pa_nil))))) (pss_one (ps_ret pe_bl)) pss_nil)
      (pss_cons (ps_lock (ps_for PassesOwn.never rfl (pi_items (pv 1)) (pg_tup rfl (pgs_cons (pg_name (i := 2) scMayF.nd rfl (.inl rfl)) (pgs_cons (pg_name (i := 3) scMayF.nd rfl (.inl rfl)) pgs_nil)))
        (pss_cons (ps_if (PW.pt (pw_or (pt_not (pt_val (pe_meth (pv 0) T.cl HS.m HS.ok hr2 HS.b .nil pass0 (pa_cons (pv 2) pa_nil)))) (pw_or (pt_not (pt_val (pe_call WH.ok hr1 (by rfl) WH.g WH.kp WH.b .nil pass0 (pa_cons (pv 3) pa_nil))))
          (pw_or1 (pt_cmpR op_lt (pv 3) pe_int (nomark _)))))) (pss_one (ps_ret pe_bl)) pss_nil)
        (pss_one (ps_if (pt_cmpR op_gt (pe_op op_add (pe_meth (pv 0) T.cl FL.m FL.ok hr4 FL.b .nil pass0 (pa_cons (pv 2) pa_nil)) (pv 3)) (pe_meth (pv 0) T.cl WO.m WO.ok hr WO.b .nil pass0 (pa_cons (pv 2) pa_nil)) (nomark _)) (pss_one (ps_ret pe_bl)) pss_nil)))))
      (pss_one (ps_ret pe_bl))), ?_⟩
    refine ⟨.ref d, rfl, _, .ty "dict", _, _, true, rfl, .ty "dict", .base (.dK hd), kit_ty (by decide +kernel), _, rfl, iteF ?_⟩
    refine ⟨d, _, hd, trivial, fun od => ?_⟩
    have hbL := hb.keep (kp_lock (od := od) hd)
    obtain ⟨dx, tn, on, wg, ws, wd, e, h1, hn, h2, h3, h4⟩ := hbL.ex
    have hdL : upd H d (.frz od (.dK (moreK ps))) d = some (.frz od (.dK (moreK ps))) := upd_same
    have un : ∀ H', Same (upd H d (.frz od (.dK (moreK ps)))) H' → Same H (upd H' d (.dK (moreK ps))) := fun H' s' => same_unlock hd s'
    generalize upd H d (.frz od (.dK (moreK ps))) = HL at hbL e h1 h2 h3 h4 hdL un
    refine ⟨.ref d, rfl, d, od, _, rfl, hdL, ?_⟩
    refine for_it (walk_items (kvs := moreK ps)) (fun i σ H' => ∃ y2 y3, σ = [some (.ref b), some (.ref d), y2, y3] ∧ Same HL H') ⟨_, _, rfl, Same.refl _⟩ (fun i σ H' _ hP => ?_) (fun i x σ H1' H1 hi hP hY => ?_) (fun σ H' hP => ?_)
    · obtain ⟨_, _, _, s1⟩ := hP
      exact s1 _ _ hdL
    · obtain ⟨Tt, x1, x2, rfl, nT, rfl, e1, e2⟩ := hY
      obtain ⟨y2, y3, rfl, s1⟩ := hP
      have hi' : i < ps.length := by
        unfold moreK at hi
        rw [List.length_map] at hi
        exact hi
      have ek : (moreK ps)[i]? = some (Sum.inr ps[i].1, V.int ps[i].2) := by
        unfold moreK
        rw [List.getElem?_map, List.getElem?_eq_getElem hi']
        rfl
      have e1' : (moreK ps)[i]?.map (fun kv => kV kv.1) = some x1 := e1
      have e2' : (moreK ps)[i]?.map Prod.snd = some x2 := e2
      rw [ek] at e1' e2'
      have ex1 : x1 = .str ps[i].1 := (Option.some.inj e1').symm
      have ex2 : x2 = .int ps[i].2 := (Option.some.inj e2').symm
      subst ex1 ex2
      obtain ⟨j, l, fl, ej, el, ef, m0, mw⟩ := fo.kd _ (List.getElem_mem hi')
      generalize ps[i] = pm at ej m0 mw nT s1
      obtain ⟨z, m⟩ := pm
      have s2 := s1.trans (same_upd (o := .tup [V.str z, V.int m]) nT)
      have hT : upd H1' Tt (.tup [V.str z, V.int m]) Tt = some (.tup [V.str z, V.int m]) := upd_same
      generalize upd H1' Tt (.tup [V.str z, V.int m]) = H2 at s2 hT
      refine ⟨Tt, [.str z, .int m], rfl, .inl (.inl hT), rfl, _, _, rfl, _, _, rfl, rfl, ?_⟩
      have hm : z ∈ M.names := List.mem_of_getElem? ej
      have lz := (nameT_len (ok.nm z hm)).2
      refine ⟨.ref b, rfl, b, dx, _, rfl, s2 _ _ e, bf_no (NoF.mk' (by decide +kernel)), .str z, rfl, b, M, .str z, .str z, rfl, book_same hbL s2, ok.names, .str z, (fun y ey => by cases ey; omega), fun H3 s3 => ⟨_, rfl, ?_⟩⟩
      have eh : hasD M (.str z) = true := decide_eq_true hm
      rw [eh]
      refine iteF ⟨.int m, rfl, .int m, .int m, rfl, .int m, (fun y ey => by cases ey), fun H4 s4 => ⟨_, rfl, iteF ⟨.int m, rfl, _, _, rfl, rfl, _, rfl, ?_⟩⟩⟩
      rw [show decide (m < 0) = false from decide_eq_false (by have : (0 : Int) ≤ m := m0; omega)]
      have s24 := s2.trans (s3.trans s4)
      refine iteF ⟨.ref b, rfl, b, dx, _, rfl, s24 _ _ e, bf_no (NoF.mk' (by decide +kernel)), .str z, rfl, b, M, z, j, fl, rfl, book_same hbL s24, ok.names, ej, ef, fun H5 s5 => ⟨.int m, rfl, fl, m, rfl, rfl, ?_⟩⟩
      have s25 := s24.trans s5
      refine ⟨.ref b, rfl, b, dx, _, rfl, s25 _ _ e, bf_no (NoF.mk' (by decide +kernel)), .str z, rfl, b, M, z, j, rfl, book_same hbL s25, ok, ej, fun H6 s6 => ⟨_, _, rfl, rfl, _, rfl, ?_⟩⟩
      show if decide (wholeN (M.stacks.getD j []) < fl + m) = true then _ else _
      rw [getD_of el, show decide (wholeN l < fl + m) = false from decide_eq_false (by have : fl + m ≤ wholeN l := mw; omega)]
      exact iteF ⟨_, _, rfl, s25.trans s6⟩
    · obtain ⟨_, _, rfl, s1⟩ := hP
      exact ⟨s1 _ _ hdL, q _ (un _ s1)⟩
/-! ### let_fall -/
abbrev sLetF : Stmt := inBook 15
abbrev nLetF : List Str := ["self", "more", "who", "drops", "other"]
theorem scLetF : FnScope nLetF ["self", "more"] (defScope sLetF) := ⟨rfl, rfl, rfl, by decide +kernel, rfl, by decide +kernel, by decide +kernel⟩
def spLetF (K : PySem.W.Frag) (C : Addr) : Sp := fun vs H Q _ => ∃ (b d : Addr) (M : Bk) (ps : List (Str × Int)), vs = [.ref b, .ref d] ∧ BookAt K C H b M ∧ M.Ok ∧ H d = some (.dK (moreK ps)) ∧ FallOk M ps ∧
  ∀ b' H', Same H H' → H b' = none → BookAt K C H' b' (fallM M ps) → Q (.ref b') H'
theorem ok_letF {f f1 f2 f3 f4 C : Addr} {fd fd1 fd2 fd3 fd4 : FuncData} (F : Fun K "let_fall" "Book.let_fall" sLetF f fd) (T : ClsF K C) (B3 : Blt3 mg)
    (MF : HasM P w K mg base C 6 "may_fall" ["self", "more"] (spMayF K C) f1 fd1) (FL : HasM P w K mg base C 4 "fallen" ["self", "who"] (spNum K C Bk.drops) f2 fd2)
    (WT : HasM P w K mg base C 5 "with_these" ["self", "gifts", "stacks", "drops"] (spWith K C) f3 fd3) (CS : HasM P w K mg base C 5 "cash" ["self", "who"] (spCalc K C cashM) f4 fd4) :
    FnOk P w K mg base CX0 7 f fd ["self", "more"] (spLetF K C) := by
  refine F.ok scLetF (fun vs H Q E h => ?_) (fun cdv A outer s H vs Q E hr h => ?_)
  · obtain ⟨_, _, _, _, rfl, _⟩ := h
    rfl
  · obtain ⟨b, d, M, ps, rfl, hb, ok, hd, fo, q⟩ := h
    have hu := hu_of hr
    have hr4 := hr.mono (show 4 ≤ 6 by decide)
    have hr5 := hr.mono (show 5 ≤ 6 by decide)
    refine ⟨_, pss_cons (ps_if (pt_not (pt_val (pe_meth (pv 0) T.cl MF.m MF.ok hr MF.b .nil pass0 (pa_cons (pv 1) pa_nil)))) pss_never pss_nil)
      (pss_cons (ps_set (i := 3) scLetF.nd rfl (.inl rfl) (pe_callTy call_tupD (by rfl) B3.tuple (by decide +kernel) (pa_cons
          (pe_lc (own := [("who", 2)]) (g := gName 2) (tt := tYes) rfl scLetF.nd (pi_tup (pe_fld (pv 0) rfl)) (blkOk_by (N := nLetF) (sc := defScope sLetF) (own := [("who", 2)]) (by decide +kernel))
            (fun _ _ _ _ _ => pg_name (i := 2) scLetF.nd rfl (.inl rfl) (hf := .inr rfl)) (fun _ _ _ _ _ => pts_nil)
            (fun _ _ _ _ _ => pe_op op_add (pe_meth (pv 0) T.cl FL.m FL.ok hr4 FL.b .nil pass0 (pa_cons (pv 2) pa_nil)) (pe_dget2 hu (pv 1) (pv 2) pe_int ⟨rfl, rfl, rfl, rfl⟩))) pa_nil)))
      (pss_cons (ps_set (i := 4) scLetF.nd rfl (.inl rfl) (pe_meth (pv 0) T.cl WT.m WT.ok hr5 WT.b .nil pass0 (pa_cons (pe_fld (pv 0) rfl) (pa_cons (pe_fld (pv 0) rfl) (pa_cons (pv 3) pa_nil)))))
      (pss_cons (ps_for PassesOwn.never rfl (pi_tup (pe_fld (pv 0) rfl)) (pg_name (i := 2) scLetF.nd rfl (.inl rfl))
        (pss_one (ps_if (pt_cmpR op_lt (pe_meth (pv 4) T.cl CS.m CS.ok hr5 CS.b .nil pass0 (pa_cons (pv 2) pa_nil)) pe_int (nomark _)) pss_never pss_nil)))
      (pss_one (ps_ret (pv 4)))))), ?_⟩
    obtain ⟨dx, tn, on, wg, ws, wd, e, h1, hn, h2, h3, h4⟩ := hb.ex
    refine ⟨.ref b, rfl, b, dx, _, rfl, e, bf_no (NoF.mk' (by decide +kernel)), .ref d, rfl, b, d, M, ps, rfl, hb, ok, hd, fo, fun H1 s1 => ⟨_, rfl, iteF ?_⟩⟩
    have qn : SqT K H tn (M.names.map V.str) := .inl (.inr ⟨on, h1⟩)
    refine ⟨.ref b, rfl, b, C, dx, _, _, rfl, s1 _ _ e, T.cl, T.n1, bf_names, tn, rfl, ⟨_, same_seqT s1 qn⟩, fun D nD => ?_⟩
    have lnm : (M.names.map V.str).length = M.names.length := List.length_map ..
    have lzp : (M.names.zip M.drops).length = M.names.length := by rw [List.length_zip, ok.ld, Nat.min_self]
    have n12 := ok.n1
    refine lc_it (walk_tup (K := K) (a := tn) (xs := M.names.map V.str)) (fun i H' => Same H1 H' ∧ H' D = some (.lst ((((M.names.zip M.drops).take i).map fun p => p.2 + moreAt ps p.1).map V.int))) ⟨same_upd nD, upd_same⟩ (fun i H' _ hP => same_seqT hP.1 (same_seqT s1 qn))
      (fun i x H2' H2 hi hP hY => ?_) (fun H2 hP => ?_)
    · obtain ⟨rfl, hx⟩ := hY
      rw [lnm] at hi
      have hid : i < M.drops.length := by rw [ok.ld]; exact hi
      have ex : x = .str M.names[i] := by
        rw [List.getElem?_map, List.getElem?_eq_getElem hi] at hx
        exact (Option.some.inj hx).symm
      subst ex
      have s12 := s1.trans hP.1
      refine ⟨rfl, .ref b, rfl, b, dx, _, rfl, s12 _ _ e, bf_no (NoF.mk' (by decide +kernel)), _, rfl, b, M, _, i, _, rfl, book_same hb s12, ok.names, List.getElem?_eq_getElem hi, List.getElem?_eq_getElem hid, fun H3 s3 => ?_⟩
      have s13 := s12.trans s3
      refine ⟨.ref d, rfl, d, rfl, .inl ⟨_, .inl (s13 _ _ hd)⟩, _, rfl, _, DGet.k (k := Sum.inr M.names[i]) (s13 _ _ hd), ?_⟩
      rw [more_val]
      refine ⟨_, _, rfl, rfl, _, s3 _ _ hP.2, ?_, fun c o ec => ?_, ?_⟩
      · rw [List.length_map, List.length_map, List.length_take]
        exact small1000 (by omega)
      · rw [upd_ne (ne_of_none ec nD)]
        exact s3 _ _ (hP.1 c o ec)
      · have tk : (M.names.zip M.drops).take (i + 1) = (M.names.zip M.drops).take i ++ [(M.names[i], M.drops[i])] := by
          rw [List.take_add_one, List.getElem?_zip_eq_some (z := (M.names[i], M.drops[i])) |>.mpr ⟨List.getElem?_eq_getElem hi, List.getElem?_eq_getElem hid⟩]
          rfl
        rw [upd_same, tk, List.map_append, List.map_append]
        rfl
    · obtain ⟨s2, hD⟩ := hP
      rw [lnm, List.take_of_length_le (by rw [lzp]; exact Nat.le_refl _)] at hD
      have ed : ((M.names.zip M.drops).map fun p => p.2 + moreAt ps p.1) = (fallM M ps).drops := rfl
      rw [ed] at hD
      refine ⟨.ref D, ((fallM M ps).drops).map .int, rfl, .lst (.inl (.inl hD)) (DtAll.ints _), fun t H3 s3 dt => ?_⟩
      have s13 := s1.trans (s2.trans s3)
      refine ⟨.ref b, rfl, b, dx, _, rfl, s13 _ _ e, bf_no (NoF.mk' (by decide +kernel)), .ref b, rfl, b, C, dx, _, _, rfl, s13 _ _ e, T.cl, T.n2, bf_gifts, .ref b, rfl, b, C, dx, _, _, rfl, s13 _ _ e, T.cl, T.n3, bf_stacks, t, rfl,
        b, M, _, _, _, M.gifts, M.stacks, (fallM M ps).drops, rfl, book_same hb s13, ok.names, Dt.same s13 _ h2, Dt.same s13 _ h3, dt, fun b' H4 s4 nb hb' => ?_⟩
      have s14 := s13.trans s4
      have hb4 : BookAt K C H4 b' (fallM M ps) := hb'
      refine ⟨.ref b, rfl, b, C, dx, _, _, rfl, s14 _ _ e, T.cl, T.n1, bf_names, tn, rfl, ⟨_, same_seqT s14 qn⟩, ?_⟩
      obtain ⟨dx2, tn2, on2, vg2, vs2, vd2, e2, k1, kn, k2, k3, k4⟩ := hb4.ex
      refine for_it (walk_tup (K := K) (a := tn) (xs := M.names.map V.str)) (fun i σ H' => ∃ y2, σ = [some (.ref b), some (.ref d), y2, some t, some (.ref b')] ∧ Same H4 H') ⟨_, rfl, Same.refl _⟩ (fun i σ H' _ hP => ?_) (fun i x σ H5' H5 hi hP hY => ?_) (fun σ H' hP => ?_)
      · obtain ⟨_, _, s5⟩ := hP
        exact same_seqT s5 (same_seqT s14 qn)
      · obtain ⟨rfl, hx⟩ := hY
        obtain ⟨y2, rfl, s5⟩ := hP
        rw [lnm] at hi
        have ex : x = .str M.names[i] := by
          rw [List.getElem?_map, List.getElem?_eq_getElem hi] at hx
          exact (Option.some.inj hx).symm
        subst ex
        have ei : M.names[i]? = some M.names[i] := List.getElem?_eq_getElem hi
        refine ⟨.ref b', rfl, b', dx2, _, rfl, s5 _ _ e2, bf_no (NoF.mk' (by decide +kernel)), _, rfl, b', fallM M ps, _, i, rfl, book_same hb4 s5, fall_ok ok ps, ei, fun H6 s6 => ⟨_, _, rfl, rfl, _, rfl, ?_⟩⟩
        have c0 := fo.cs i _ ei
        rw [show decide (cashM (fallM M ps) i M.names[i] < 0) = false from decide_eq_false (by omega)]
        exact iteF ⟨_, rfl, s5.trans s6⟩
      · obtain ⟨y2, rfl, s5⟩ := hP
        exact ⟨.ref b', rfl, q b' H' (s14.trans s5) (s13.free nb) (book_same hb4 s5)⟩
end
end Rc

namespace Rc
open PySem PySem.Spec PyProof.Rows L2 RZ
theorem due_inv {K : PySem.W.Frag} {H : Hp} {v : V} {o : Option (Str × Int)} (h : Dt K H v (dueD o)) : (o = none ∧ v = .non) ∨ ∃ n a, o = some n ∧ v = .ref a ∧ SqT K H a [.str n.1, .int n.2] := by
  cases o with
  | none =>
    cases h
    exact .inl ⟨rfl, rfl⟩
  | some n =>
    obtain ⟨a, e, q⟩ := note_inv h
    exact .inr ⟨n, a, rfl, e, q⟩
theorem dues_len {M : Bk} (ok : M.Ok) : (duesM M).length = M.names.length := by
  unfold duesM
  rw [List.length_map, List.length_zip, ok.ls, ok.ld, Nat.min_self]
/-- a dict of due notes -/
structure DuesAt (K : PySem.W.Frag) (H : Hp) (d : Addr) (zs : List Str) (os : List (Option (Str × Int))) : Prop where
  ex : ∃ vs, Rd H d (.dK (dct zs vs)) ∧ DtAll K H vs (os.map dueD)
theorem DuesAt.same {K : PySem.W.Frag} {H H' : Hp} {d : Addr} {zs : List Str} {os : List (Option (Str × Int))} (h : DuesAt K H d zs os) (s : Same H H') : DuesAt K H' d zs os := by
  obtain ⟨vs, h1, h2⟩ := h.ex
  refine ⟨vs, ?_, DtAll.same s _ h2⟩
  rcases h1 with h1 | ⟨o, h1⟩
  · exact .inl (s _ _ h1)
  · exact .inr ⟨o, s _ _ h1⟩
/-- and it is not locked -/
structure DuesU (K : PySem.W.Frag) (H : Hp) (d : Addr) (zs : List Str) (os : List (Option (Str × Int))) : Prop where
  ex : ∃ vs, H d = some (.dK (dct zs vs)) ∧ DtAll K H vs (os.map dueD)
theorem DuesU.at {K : PySem.W.Frag} {H : Hp} {d : Addr} {zs : List Str} {os : List (Option (Str × Int))} (h : DuesU K H d zs os) : DuesAt K H d zs os := by
  obtain ⟨vs, h1, h2⟩ := h.ex
  exact ⟨vs, .inl h1, h2⟩
theorem DuesU.same {K : PySem.W.Frag} {H H' : Hp} {d : Addr} {zs : List Str} {os : List (Option (Str × Int))} (h : DuesU K H d zs os) (s : Same H H') : DuesU K H' d zs os := by
  obtain ⟨vs, h1, h2⟩ := h.ex
  exact ⟨vs, s _ _ h1, DtAll.same s _ h2⟩
theorem dget_rd {H : Hp} {a : Addr} {zs : List Str} {vs : List V} {j : Nat} {z : Str} {v : V} (h : Rd H a (.dK (dct zs vs))) (nd : zs.Nodup) (e1 : zs[j]? = some z) (e2 : vs[j]? = some v) : DGet H a (.str z) (some v) :=
  .inl ⟨_, Sum.inr z, h, rfl, (dct_val nd e1 e2).symm⟩
theorem DuesAt.get {K : PySem.W.Frag} {H : Hp} {d : Addr} {zs : List Str} {os : List (Option (Str × Int))} (h : DuesAt K H d zs os) (nd : zs.Nodup) (lo : os.length = zs.length) {z : Str} (hz : z ∈ zs) :
    ∃ v o, DGet H d (.str z) (some v) ∧ Dt K H v (dueD o) ∧ nxOf zs os z = o.map (·.1) := by
  obtain ⟨vs, h1, h2⟩ := h.ex
  have hi : zs.idxOf z < os.length := by
    rw [lo]
    exact List.idxOf_lt_length_of_mem hz
  obtain ⟨v, e1, e2⟩ := h2.get (n := zs.idxOf z) (d := dueD os[zs.idxOf z]) (map_get (List.getElem?_eq_getElem hi))
  refine ⟨v, os[zs.idxOf z], dget_rd h1 nd (idx_get hz) e1, e2, ?_⟩
  unfold nxOf
  rw [getD_of (List.getElem?_eq_getElem hi)]
/-- what the walks ask of due notes -/
structure Walks (zs : List Str) (os : List (Option (Str × Int))) : Prop where
  nd : zs.Nodup
  lo : os.length = zs.length
  lz : zs.length ≤ 12
  ld : Leads zs (nxOf zs os)
theorem walks_of {M : Bk} (ok : M.Ok) (c : Closed M) : Walks M.names (duesM M) := ⟨ok.nd, dues_len ok, ok.n1, c.leads⟩
abbrev nxM (M : Bk) : Str → Option Str := nxOf M.names (duesM M)
end Rc

namespace Rc
open PySem PySem.Spec PyProof.Rows L2 RZ
section
variable {P : Program} {w : World} {K : PySem.W.Frag} {mg : Str → Option Value} {base : Heap}
/-! ### trail_by -/
abbrev sTrB : Stmt := topS 11
theorem scTrB : FnScope ["dues", "who", "trail", "due"] ["dues", "who"] (defScope sTrB) := ⟨rfl, rfl, rfl, by decide +kernel, rfl, by decide +kernel, by decide +kernel⟩
def spTrB (K : PySem.W.Frag) : Sp := fun vs H Q _ => ∃ (d : Addr) (z : Str) (zs : List Str) (os : List (Option (Str × Int))), vs = [.ref d, .str z] ∧ DuesAt K H d zs os ∧ Walks zs os ∧ z ∈ zs ∧
  ∀ t H', Same H H' → H t = none → H' t = some (.lst ((trailM zs (nxOf zs os) z).map V.str)) → Q (.ref t) H'
theorem ok_trB {f : Addr} {fd : FuncData} (F : Fun K "trail_by" "trail_by" sTrB f fd) : FnOk P w K mg base CX0 1 f fd ["dues", "who"] (spTrB K) := by
  refine F.ok scTrB (fun vs H Q E h => ?_) (fun cdv A outer s H vs Q E hr h => ?_)
  · obtain ⟨_, _, _, _, rfl, _⟩ := h
    rfl
  · obtain ⟨d, z, zs, os, rfl, hd, wk, hz, q⟩ := h
    have hu := hu_of hr
    refine ⟨_, pss_cons (ps_set (i := 2) scTrB.nd rfl (.inl rfl) (pe_lst (pa_cons (pv 1) pa_nil)))
      (pss_cons (ps_set (i := 3) scTrB.nd rfl (.inl rfl) (pe_dget hu (pv 0) (pv 1) (fun _ _ => rfl)))
      (pss_cons (ps_while PassesOwn.never (PW.pt (pw_and (pt_cmpR op_notN (pv 3) pe_non (nomark _)) (pw_and1 (pt_cmpR op_notIn_seq (pe_ix ix_tup (pv 3) pe_int (fun _ _ => rfl)) (pv 2) (by rfl)))))
        (pss_cons (ps_expr (pe_bm PySem.F.plainAttrs_list PySem.F.slot_list_append PySem.F.type_list_append mt_append (pv 2) (pa_cons (pe_ix ix_tup (pv 3) pe_int (fun _ _ => rfl)) pa_nil)))
        (pss_one (ps_set (i := 3) scTrB.nd rfl (.inl rfl) (pe_dget hu (pv 0) (pe_ix ix_tup (pv 3) pe_int (fun _ _ => rfl)) (fun _ _ => rfl))))))
      (pss_one (ps_ret (pv 2))))), ?_⟩
    refine ⟨.str z, rfl, by show 1 ≤ sizeLine; decide, fun t nt => ?_⟩
    have s1 := same_upd (o := .lst [V.str z]) nt
    have ht1 : upd H t (.lst [V.str z]) t = some (.lst [V.str z]) := upd_same
    generalize upd H t (.lst [V.str z]) = H1 at s1 ht1
    obtain ⟨v0, o0, g0, d0, e0⟩ := (hd.same s1).get wk.nd wk.lo hz
    refine ⟨.ref d, rfl, .str z, rfl, d, v0, rfl, g0, ?_⟩
    refine ⟨fun k σ H' => ∃ acc o v, σ = [some (.ref d), some (.str z), some (.ref t), some v] ∧ Same H H' ∧ H' t = some (.lst (List.map V.str acc)) ∧ Dt K H' v (dueD o) ∧ TrailAt zs (nxOf zs os) z k acc (o.map (·.1)),
      ⟨zs.length, [z], o0, v0, rfl, s1, ht1, d0, by rw [← e0]; exact TrailAt.start hz⟩, ?_⟩
    rintro k σ H' ⟨acc, o, v, rfl, s2, ht, dv, ta⟩
    have fin : acc = trailM zs (nxOf zs os) z → ∃ x : V, some (some (.ref t)) = some (some x) ∧ Q x H' := fun ea => ⟨.ref t, rfl, q t H' s2 nt (by rw [← ea]; exact ht)⟩
    have lacc : acc.length ≤ 12 := Nat.le_trans (nodup_le _ _ ta.nd ta.sub) wk.lz
    rcases due_inv dv with ⟨rfl, rfl⟩ | ⟨n, a, rfl, rfl, qa⟩
    · refine ⟨.non, rfl, rfl, _, rfl, ?_⟩
      rw [decide_eq_true rfl]
      refine iteF (iteF ?_)
      exact fin ta.stopN
    · refine ⟨.ref a, rfl, rfl, _, rfl, ?_⟩
      rw [decide_eq_false (fun c => by cases c)]
      refine iteT ⟨.ref a, rfl, a, _, 0, .str n.1, rfl, rfl, qa, rfl, .ref t, rfl, t, _, rfl, .inl (.inl (.inl ht)), rfl, flat_strs _, _, rfl, ?_⟩
      show if (!inV (.str n.1) (acc.map V.str)) = true then _ else _
      rw [inV_strs]
      by_cases hin : n.1 ∈ acc
      · rw [decide_eq_true hin]
        refine iteF ?_
        exact fin (ta.stopI hin)
      · rw [decide_eq_false hin]
        obtain ⟨k', rfl, ta'⟩ := ta.step wk.ld hin
        refine iteT ⟨fun σ2 H2 => ∃ acc o v, σ2 = [some (.ref d), some (.str z), some (.ref t), some v] ∧ Same H H2 ∧ H2 t = some (.lst (List.map V.str acc)) ∧ Dt K H2 v (dueD o) ∧ TrailAt zs (nxOf zs os) z k' acc (o.map (·.1)), fun σ2 H2 h2 => ⟨k', by omega, h2⟩, ?_⟩
        refine ⟨.ref t, rfl, .inl ⟨rfl, _, .inl (.inl ht)⟩, .ref a, rfl, a, _, 0, .str n.1, rfl, rfl, qa, rfl, t, _, _, rfl, rfl, ht, by rw [List.length_map]; exact small1000 (by omega), ?_⟩
        have kt : KT H' (upd H' t (.lst (acc.map V.str ++ [.str n.1]))) := kt_upd ht fun z => z
        have s3 : Same H (upd H' t (.lst (acc.map V.str ++ [.str n.1]))) := fun c u ec => by
          rw [upd_ne (ne_of_none ec nt)]
          exact s2 c u ec
        have qa3 : SqT K (upd H' t (.lst (acc.map V.str ++ [.str n.1]))) a [.str n.1, .int n.2] := by
          rcases qa with (qa | ⟨ob, qa⟩) | qa
          · exact .inl (.inl (kt _ _ qa trivial))
          · exact .inl (.inr ⟨ob, kt _ _ qa trivial⟩)
          · exact .inr qa
        have hn : n.1 ∈ zs := by
          obtain ⟨_, x, _, ex⟩ := ta.last
          exact wk.ld x n.1 ex.symm
        obtain ⟨v2, o2, g2, d2, e2⟩ := (hd.same s3).get wk.nd wk.lo hn
        refine ⟨.ref d, rfl, .ref a, rfl, a, _, 0, .str n.1, rfl, rfl, qa3, rfl, d, v2, rfl, g2, ?_⟩
        refine ⟨acc ++ [n.1], o2, v2, rfl, s3, ?_, d2, ?_⟩
        · rw [upd_same, List.map_append]
          rfl
        · rw [← e2]
          exact ta'
end
end Rc

namespace Rc
open PySem PySem.Spec PyProof.Rows L2 RZ
/-- a ring that is told, or none -/
def RingV (H H' : Hp) (v : V) : Option (List Str) → Prop
  | none => v = .non
  | some r => ∃ a, v = .ref a ∧ H a = none ∧ H' a = some (.lst (r.map V.str))
theorem RingV.same {H H0 H' H2 : Hp} {v : V} {o : Option (List Str)} (h : RingV H H' v o) (s : Same H' H2) (s0 : Same H0 H) : RingV H0 H2 v o := by
  cases o with
  | none => exact h
  | some r =>
    obtain ⟨a, e, n, x⟩ := h
    exact ⟨a, e, s0.free n, s _ _ x⟩
theorem idx_first {T : List Str} {f : Str} {m : Nat} {x : Str} (hm : m < T.idxOf f) (e : T[m]? = some x) : x ≠ f := fun c => by
  obtain ⟨hl, e'⟩ := List.getElem?_eq_some_iff.mp e
  have := List.not_of_lt_findIdx (p := (· == f)) (xs := T) (i := m) hm
  rw [e', c] at this
  simp at this
theorem str_eqV (x y : Str) : eqV (.str x) (.str y) = (x == y) := rfl
end Rc

namespace Rc
open PySem PySem.Spec PyProof.Rows L2 RZ
section
variable {P : Program} {w : World} {K : PySem.W.Frag} {mg : Str → Option Value} {base : Heap}
/-! ### ring_by -/
abbrev sRgB : Stmt := topS 12
abbrev nRgB : List Str := ["dues", "who", "trail", "last", "first", "place", "name"]
theorem scRgB : FnScope nRgB ["dues", "who"] (defScope sRgB) := ⟨rfl, rfl, rfl, by decide +kernel, rfl, by decide +kernel, by decide +kernel⟩
def spRgB (K : PySem.W.Frag) : Sp := fun vs H Q _ => ∃ (d : Addr) (z : Str) (zs : List Str) (os : List (Option (Str × Int))), vs = [.ref d, .str z] ∧ DuesAt K H d zs os ∧ Walks zs os ∧ z ∈ zs ∧
  ∀ v H', Same H H' → RingV H H' v (ringM zs (nxOf zs os) z) → Q v H'
theorem ok_rgB {f f1 : Addr} {fd fd1 : FuncData} (F : Fun K "ring_by" "ring_by" sRgB f fd) (TB : Has P w K mg base 1 "trail_by" ["dues", "who"] (spTrB K) f1 fd1) : FnOk P w K mg base CX0 2 f fd ["dues", "who"] (spRgB K) := by
  refine F.ok scRgB (fun vs H Q E h => ?_) (fun cdv A outer s H vs Q E hr h => ?_)
  · obtain ⟨_, _, _, _, rfl, _⟩ := h
    rfl
  · obtain ⟨d, z, zs, os, rfl, hd, wk, hz, q⟩ := h
    have hu := hu_of hr
    obtain ⟨vs, hR, hV⟩ := hd.ex
    rcases hR with hU | ⟨od, hF⟩
    · refine ⟨_, pss_cons (ps_set (i := 2) scRgB.nd rfl (.inr rfl) (pe_call TB.ok hr (by rfl) TB.g TB.kp TB.b .nil pass0 (pa_cons (pv 0) (pa_cons (pv 1) pa_nil))))
        (pss_cons (ps_set (i := 3) scRgB.nd rfl (.inl rfl) (pe_dget hu (pv 0) (pe_ix ix_list (pv 2) (pe_un un_neg pe_int) (fun _ _ => rfl)) (fun _ _ => rfl)))
        (pss_cons (ps_if (PW.pt (pw_or (pt_cmpR op_isN (pv 3) pe_non (nomark _)) (pw_or1 (pt_cmpR op_ne (pe_ix ix_tup (pv 3) pe_int (fun _ _ => rfl)) (pv 1) (nomark _))))) (pss_one (ps_ret pe_non)) pss_nil)
        (pss_cons (ps_set (i := 4) scRgB.nd rfl (.inl rfl) (pe_ix ix_list (pe_lock (pe_lc (own := [("name", 6)]) (g := gName 6) (tt := tTest (tOp (rIn K false) (tVar 6) (tVar 2))) (te := tVar 6) rfl scRgB.nd (pi_keys (pv 0)) (blkOk_by (N := nRgB) (sc := defScope sRgB) (own := [("name", 6)]) (by decide +kernel))
            (fun _ _ _ _ _ => pg_name (i := 6) scRgB.nd rfl (.inl rfl) (hf := .inr rfl)) (fun _ _ _ _ _ => pts_one (pt_cmpR op_in_seq (pv 6) (pv 2) (by rfl))) (fun _ _ _ _ _ => pv 6))) pe_int (fun _ _ => rfl)))
        (pss_cons (ps_set (i := 5) scRgB.nd rfl (.inl rfl) (pe_bm PySem.F.plainAttrs_list PySem.F.slot_list_index PySem.F.type_list_index mt_index (pv 2) (pa_cons (pv 4) pa_nil)))
        (pss_one (ps_ret (pe_op op_cat (pe_slice sl_list (pv 2) (po_some (pv 5)) po_none) (pe_slice sl_list (pv 2) po_none (po_some (pv 5)))))))))), ?_⟩
      have en := trail_ended wk.ld hz
      obtain ⟨ini, y, eT, eL⟩ := en.last
      have hyT : y ∈ trailM zs (nxOf zs os) z := by
        rw [eT]
        exact List.mem_append.mpr (.inr List.mem_cons_self)
      have hy : y ∈ zs := en.sub y hyT
      have eL2 := lastM_eq eT
      have hzT : z ∈ trailM zs (nxOf zs os) z := by
        obtain ⟨r, er⟩ := en.first
        rw [er]
        exact List.mem_cons_self
      have lT : (trailM zs (nxOf zs os) z).length ≤ 12 := Nat.le_trans (nodup_le _ _ en.nd en.sub) wk.lz
      refine ⟨.ref d, rfl, .str z, rfl, d, z, zs, os, rfl, hd, wk, hz, fun t H1 s1 nt ht => ?_⟩
      obtain ⟨v2, o2, g2, d2, e2⟩ := (hd.same s1).get wk.nd wk.lo hy
      refine ⟨.ref d, rfl, .ref t, rfl, _, rfl, t, _, -1, .str y, rfl, rfl, .inl (.inl ht), ?_, d, v2, rfl, g2, ?_⟩
      · rw [eT, List.map_append]
        exact atI_last _ _
      have er : ringM zs (nxOf zs os) z = if o2.map (·.1) = some z then some ((trailM zs (nxOf zs os) z).drop ((trailM zs (nxOf zs os) z).idxOf (firstM zs (trailM zs (nxOf zs os) z))) ++ (trailM zs (nxOf zs os) z).take ((trailM zs (nxOf zs os) z).idxOf (firstM zs (trailM zs (nxOf zs os) z)))) else none := by
        unfold ringM
        rw [eL2, e2]
      rw [er] at q
      generalize trailM zs (nxOf zs os) z = TT at hzT lT ht eT hyT q
      rcases due_inv d2 with ⟨rfl, rfl⟩ | ⟨n, a, rfl, rfl, qa⟩
      · refine ⟨.non, rfl, rfl, _, rfl, ?_⟩
        rw [decide_eq_true rfl]
        refine iteT (iteT ?_)
        exact q .non H1 s1 rfl
      · refine ⟨.ref a, rfl, rfl, _, rfl, ?_⟩
        rw [decide_eq_false (fun c => by cases c)]
        refine iteF ⟨.ref a, rfl, a, _, 0, .str n.1, rfl, rfl, qa, rfl, .str z, rfl, rfl, _, rfl, ?_⟩
        by_cases hn : n.1 = z
        · rw [show decide (V.str n.1 = V.str z) = true from decide_eq_true (by rw [hn])]
          rw [if_pos (show (some n).map (·.1) = some z from congrArg some hn)] at q
          refine iteF ?_
          obtain ⟨vs, hdv, dvs⟩ := (DuesU.same ⟨_, hU, hV⟩ s1).ex
          obtain ⟨fs, rs, ef, e1, fT, fz⟩ := find_some hz hzT
          rw [e1] at q
          refine ⟨d, _, hdv, trivial, fun od => ?_⟩
          have hdL : upd H1 d (.frz od (.dK (dct zs vs))) d = some (.frz od (.dK (dct zs vs))) := upd_same
          have tdn : t ≠ d := fun c => by
            rw [c, hdv] at ht
            cases ht
          have htL : upd H1 d (.frz od (.dK (dct zs vs))) t = some (.lst (TT.map V.str)) := by
            rw [upd_ne tdn]
            exact ht
          have un : ∀ H', Same (upd H1 d (.frz od (.dK (dct zs vs)))) H' → Same H1 (upd H' d (.dK (dct zs vs))) := fun H' s' => same_unlock hdv s'
          generalize upd H1 d (.frz od (.dK (dct zs vs))) = HL at hdL htL un
          have lv : vs.length = zs.length := by
            rw [dvs.len, List.length_map, wk.lo]
          have lk : (dct zs vs).length = zs.length := dct_len lv
          refine ⟨.ref d, rfl, d, od, rfl, .inl ⟨_, hdL, fun D nD => ?_⟩⟩
          refine lc_it (walk_keys (kvs := dct zs vs)) (fun i H' => Same HL H' ∧ H' D = some (.lst (((zs.take i).filter fun x => decide (x ∈ TT)).map V.str))) ⟨same_upd nD, upd_same⟩ (fun i H' _ hP => hP.1 _ _ hdL)
            (fun i x H2' H2 hi hP hY => ?_) (fun H2 hP => ?_)
          · obtain ⟨rfl, k, v, ek, rfl⟩ := hY
            rw [lk] at hi
            have hiv : i < vs.length := by omega
            have ek2 : (dct zs vs)[i]? = some (Sum.inr zs[i], vs[i]) := by
              unfold dct
              rw [List.getElem?_map, List.getElem?_zip_eq_some (z := (zs[i], vs[i])) |>.mpr ⟨List.getElem?_eq_getElem hi, List.getElem?_eq_getElem hiv⟩]
              rfl
            rw [ek2] at ek
            cases ek
            refine ⟨rfl, .str zs[i], rfl, .ref t, rfl, t, _, rfl, .inl (.inl (.inl (hP.1 _ _ htL))), rfl, flat_strs _, _, rfl, ?_⟩
            show if inV (.str zs[i]) (TT.map V.str) = true then _ else _
            rw [inV_strs]
            have tk := take_succ hi
            by_cases hin : zs[i] ∈ TT
            · rw [decide_eq_true hin]
              refine iteT ⟨_, rfl, _, hP.2, ?_, fun c o ec => ?_, ?_⟩
              · rw [List.length_map]
                have h1 := List.length_filter_le (fun x => decide (x ∈ TT)) (zs.take i)
                have h2 : (zs.take i).length ≤ zs.length := by
                  rw [List.length_take]
                  omega
                have := wk.lz
                exact small1000 (by omega)
              · rw [upd_ne (ne_of_none ec nD)]
                exact hP.1 c o ec
              · rw [upd_same, tk, List.filter_append, List.map_append]
                simp [hin]
                rfl
            · rw [decide_eq_false hin]
              refine iteF ⟨hP.1, ?_⟩
              rw [hP.2, tk, List.filter_append]
              simp [hin]
          · obtain ⟨s2, hD⟩ := hP
            rw [lk, List.take_length, ef] at hD
            have s3 := un _ s2
            have tD : t ≠ D := ne_of_none htL nD
            have dD : D ≠ d := (ne_of_none hdL nD).symm
            have hD3 : upd H2 d (.dK (dct zs vs)) D = some (.lst ((fs :: rs).map V.str)) := by
              rw [upd_ne dD]
              exact hD
            have ht3 := s3 _ _ ht
            refine ⟨s2 _ _ hdL, ?_⟩
            generalize upd H2 d (.dK (dct zs vs)) = H3 at s3 hD3 ht3
            refine ⟨D, _, 0, .str fs, rfl, rfl, .inl (.inl hD3), atI_nat (j := 0) rfl, ?_⟩
            refine ⟨.ref t, rfl, .inl ⟨rfl, _, .inl (.inl ht3)⟩, .str fs, rfl, t, _, .str fs, TT.idxOf fs, .str fs, rfl, rfl, .inl (.inl ht3), rfl, flat_strs _, map_get (idx_get fT), by rw [str_eqV]; simp, fun m z' hm e' => ?_, ?_⟩
            · rw [List.getElem?_map] at e'
              obtain ⟨x', ex, rfl⟩ := Option.map_eq_some_iff.mp e'
              rw [str_eqV]
              exact beq_eq_false_iff_ne.mpr (idx_first hm ex)
            · refine ⟨.ref t, rfl, .int (TT.idxOf fs : Nat), rfl, _, rfl, t, _, rfl, .inl (.inl ht3), fun p1 n1 => ?_⟩
              rw [cut_drop, ← List.map_drop]
              have s4 := same_upd (o := .lst ((TT.drop (TT.idxOf fs)).map V.str)) n1
              refine ⟨.ref t, rfl, .int (TT.idxOf fs : Nat), rfl, _, rfl, t, _, rfl, .inl (.inl (s4 _ _ ht3)), fun p2 n2 => ?_⟩
              rw [cut_take, ← List.map_take]
              have s5 := same_upd (o := .lst ((TT.take (TT.idxOf fs)).map V.str)) n2
              refine ⟨p1, p2, _, _, rfl, rfl, s5 _ _ upd_same, upd_same, ?_, fun p np => ?_⟩
              · rw [List.length_map, List.length_map, List.length_drop, List.length_take]
                exact small_line (by omega)
              · have s6 := same_upd (o := .lst ((TT.drop (TT.idxOf fs)).map V.str ++ (TT.take (TT.idxOf fs)).map V.str)) np
                refine q (.ref p) _ (s1.trans (s3.trans (s4.trans (s5.trans s6)))) ⟨p, rfl, (s1.trans (s3.trans (s4.trans s5))).free np, ?_⟩
                rw [upd_same, List.map_append]
        · rw [show decide (V.str n.1 = V.str z) = false from decide_eq_false (fun c => hn (V.str.inj c))]
          rw [if_neg (show ¬ (some n).map (·.1) = some z from fun c => hn (Option.some.inj c))] at q
          exact iteT (q .non H1 s1 rfl)
    · refine ⟨_, pss_cons (ps_set (i := 2) scRgB.nd rfl (.inr rfl) (pe_call TB.ok hr (by rfl) TB.g TB.kp TB.b .nil pass0 (pa_cons (pv 0) (pa_cons (pv 1) pa_nil))))
        (pss_cons (ps_set (i := 3) scRgB.nd rfl (.inl rfl) (pe_dget hu (pv 0) (pe_ix ix_list (pv 2) (pe_un un_neg pe_int) (fun _ _ => rfl)) (fun _ _ => rfl)))
        (pss_cons (ps_if (PW.pt (pw_or (pt_cmpR op_isN (pv 3) pe_non (nomark _)) (pw_or1 (pt_cmpR op_ne (pe_ix ix_tup (pv 3) pe_int (fun _ _ => rfl)) (pv 1) (nomark _))))) (pss_one (ps_ret pe_non)) pss_nil)
        (pss_cons (ps_set (i := 4) scRgB.nd rfl (.inl rfl) (pe_ix ix_list (pe_lc (own := [("name", 6)]) (g := gName 6) (tt := tTest (tOp (rIn K false) (tVar 6) (tVar 2))) (te := tVar 6) rfl scRgB.nd (pi_keys (pv 0)) (blkOk_by (N := nRgB) (sc := defScope sRgB) (own := [("name", 6)]) (by decide +kernel))
            (fun _ _ _ _ _ => pg_name (i := 6) scRgB.nd rfl (.inl rfl) (hf := .inr rfl)) (fun _ _ _ _ _ => pts_one (pt_cmpR op_in_seq (pv 6) (pv 2) (by rfl))) (fun _ _ _ _ _ => pv 6)) pe_int (fun _ _ => rfl)))
        (pss_cons (ps_set (i := 5) scRgB.nd rfl (.inl rfl) (pe_bm PySem.F.plainAttrs_list PySem.F.slot_list_index PySem.F.type_list_index mt_index (pv 2) (pa_cons (pv 4) pa_nil)))
        (pss_one (ps_ret (pe_op op_cat (pe_slice sl_list (pv 2) (po_some (pv 5)) po_none) (pe_slice sl_list (pv 2) po_none (po_some (pv 5)))))))))), ?_⟩
      have en := trail_ended wk.ld hz
      obtain ⟨ini, y, eT, eL⟩ := en.last
      have hyT : y ∈ trailM zs (nxOf zs os) z := by
        rw [eT]
        exact List.mem_append.mpr (.inr List.mem_cons_self)
      have hy : y ∈ zs := en.sub y hyT
      have eL2 := lastM_eq eT
      have hzT : z ∈ trailM zs (nxOf zs os) z := by
        obtain ⟨r, er⟩ := en.first
        rw [er]
        exact List.mem_cons_self
      have lT : (trailM zs (nxOf zs os) z).length ≤ 12 := Nat.le_trans (nodup_le _ _ en.nd en.sub) wk.lz
      refine ⟨.ref d, rfl, .str z, rfl, d, z, zs, os, rfl, hd, wk, hz, fun t H1 s1 nt ht => ?_⟩
      obtain ⟨v2, o2, g2, d2, e2⟩ := (hd.same s1).get wk.nd wk.lo hy
      refine ⟨.ref d, rfl, .ref t, rfl, _, rfl, t, _, -1, .str y, rfl, rfl, .inl (.inl ht), ?_, d, v2, rfl, g2, ?_⟩
      · rw [eT, List.map_append]
        exact atI_last _ _
      have er : ringM zs (nxOf zs os) z = if o2.map (·.1) = some z then some ((trailM zs (nxOf zs os) z).drop ((trailM zs (nxOf zs os) z).idxOf (firstM zs (trailM zs (nxOf zs os) z))) ++ (trailM zs (nxOf zs os) z).take ((trailM zs (nxOf zs os) z).idxOf (firstM zs (trailM zs (nxOf zs os) z)))) else none := by
        unfold ringM
        rw [eL2, e2]
      rw [er] at q
      generalize trailM zs (nxOf zs os) z = TT at hzT lT ht eT hyT q
      rcases due_inv d2 with ⟨rfl, rfl⟩ | ⟨n, a, rfl, rfl, qa⟩
      · refine ⟨.non, rfl, rfl, _, rfl, ?_⟩
        rw [decide_eq_true rfl]
        refine iteT (iteT ?_)
        exact q .non H1 s1 rfl
      · refine ⟨.ref a, rfl, rfl, _, rfl, ?_⟩
        rw [decide_eq_false (fun c => by cases c)]
        refine iteF ⟨.ref a, rfl, a, _, 0, .str n.1, rfl, rfl, qa, rfl, .str z, rfl, rfl, _, rfl, ?_⟩
        by_cases hn : n.1 = z
        · rw [show decide (V.str n.1 = V.str z) = true from decide_eq_true (by rw [hn])]
          rw [if_pos (show (some n).map (·.1) = some z from congrArg some hn)] at q
          refine iteF ?_
          have dvs := DtAll.same s1 _ hV
          have hdL := s1 _ _ hF
          obtain ⟨fs, rs, ef, e1, fT, fz⟩ := find_some hz hzT
          rw [e1] at q
          have htL := ht
          have lv : vs.length = zs.length := by
            rw [dvs.len, List.length_map, wk.lo]
          have lk : (dct zs vs).length = zs.length := dct_len lv
          refine ⟨.ref d, rfl, d, od, rfl, .inl ⟨_, hdL, fun D nD => ?_⟩⟩
          refine lc_it (walk_keys (kvs := dct zs vs)) (fun i H' => Same H1 H' ∧ H' D = some (.lst (((zs.take i).filter fun x => decide (x ∈ TT)).map V.str))) ⟨same_upd nD, upd_same⟩ (fun i H' _ hP => hP.1 _ _ hdL)
            (fun i x H2' H2 hi hP hY => ?_) (fun H2 hP => ?_)
          · obtain ⟨rfl, k, v, ek, rfl⟩ := hY
            rw [lk] at hi
            have hiv : i < vs.length := by omega
            have ek2 : (dct zs vs)[i]? = some (Sum.inr zs[i], vs[i]) := by
              unfold dct
              rw [List.getElem?_map, List.getElem?_zip_eq_some (z := (zs[i], vs[i])) |>.mpr ⟨List.getElem?_eq_getElem hi, List.getElem?_eq_getElem hiv⟩]
              rfl
            rw [ek2] at ek
            cases ek
            refine ⟨rfl, .str zs[i], rfl, .ref t, rfl, t, _, rfl, .inl (.inl (.inl (hP.1 _ _ htL))), rfl, flat_strs _, _, rfl, ?_⟩
            show if inV (.str zs[i]) (TT.map V.str) = true then _ else _
            rw [inV_strs]
            have tk := take_succ hi
            by_cases hin : zs[i] ∈ TT
            · rw [decide_eq_true hin]
              refine iteT ⟨_, rfl, _, hP.2, ?_, fun c o ec => ?_, ?_⟩
              · rw [List.length_map]
                have h1 := List.length_filter_le (fun x => decide (x ∈ TT)) (zs.take i)
                have h2 : (zs.take i).length ≤ zs.length := by
                  rw [List.length_take]
                  omega
                have := wk.lz
                exact small1000 (by omega)
              · rw [upd_ne (ne_of_none ec nD)]
                exact hP.1 c o ec
              · rw [upd_same, tk, List.filter_append, List.map_append]
                simp [hin]
                rfl
            · rw [decide_eq_false hin]
              refine iteF ⟨hP.1, ?_⟩
              rw [hP.2, tk, List.filter_append]
              simp [hin]
          · obtain ⟨s2, hD⟩ := hP
            rw [lk, List.take_length, ef] at hD
            have s3 := s2
            have tD : t ≠ D := ne_of_none htL nD
            have dD : D ≠ d := (ne_of_none hdL nD).symm
            have hD3 := hD
            have ht3 := s3 _ _ ht
            refine ⟨D, _, 0, .str fs, rfl, rfl, .inl (.inl hD3), atI_nat (j := 0) rfl, ?_⟩
            refine ⟨.ref t, rfl, .inl ⟨rfl, _, .inl (.inl ht3)⟩, .str fs, rfl, t, _, .str fs, TT.idxOf fs, .str fs, rfl, rfl, .inl (.inl ht3), rfl, flat_strs _, map_get (idx_get fT), by rw [str_eqV]; simp, fun m z' hm e' => ?_, ?_⟩
            · rw [List.getElem?_map] at e'
              obtain ⟨x', ex, rfl⟩ := Option.map_eq_some_iff.mp e'
              rw [str_eqV]
              exact beq_eq_false_iff_ne.mpr (idx_first hm ex)
            · refine ⟨.ref t, rfl, .int (TT.idxOf fs : Nat), rfl, _, rfl, t, _, rfl, .inl (.inl ht3), fun p1 n1 => ?_⟩
              rw [cut_drop, ← List.map_drop]
              have s4 := same_upd (o := .lst ((TT.drop (TT.idxOf fs)).map V.str)) n1
              refine ⟨.ref t, rfl, .int (TT.idxOf fs : Nat), rfl, _, rfl, t, _, rfl, .inl (.inl (s4 _ _ ht3)), fun p2 n2 => ?_⟩
              rw [cut_take, ← List.map_take]
              have s5 := same_upd (o := .lst ((TT.take (TT.idxOf fs)).map V.str)) n2
              refine ⟨p1, p2, _, _, rfl, rfl, s5 _ _ upd_same, upd_same, ?_, fun p np => ?_⟩
              · rw [List.length_map, List.length_map, List.length_drop, List.length_take]
                exact small_line (by omega)
              · have s6 := same_upd (o := .lst ((TT.drop (TT.idxOf fs)).map V.str ++ (TT.take (TT.idxOf fs)).map V.str)) np
                refine q (.ref p) _ (s1.trans (s3.trans (s4.trans (s5.trans s6)))) ⟨p, rfl, (s1.trans (s3.trans (s4.trans s5))).free np, ?_⟩
                rw [upd_same, List.map_append]
        · rw [show decide (V.str n.1 = V.str z) = false from decide_eq_false (fun c => hn (V.str.inj c))]
          rw [if_neg (show ¬ (some n).map (·.1) = some z from fun c => hn (Option.some.inj c))] at q
          exact iteT (q .non H1 s1 rfl)
end
end Rc

namespace Rc
open PySem PySem.Spec PyProof.Rows L2 RZ
section
variable {P : Program} {w : World} {K : PySem.W.Frag} {mg : Str → Option Value} {base : Heap}
/-! ### due_of -/
abbrev sDue : Stmt := topS 9
theorem scDue : FnScope ["book", "who", "pile"] ["book", "who"] (defScope sDue) := ⟨rfl, rfl, rfl, by decide +kernel, rfl, by decide +kernel, by decide +kernel⟩
def spDue (K : PySem.W.Frag) (C : Addr) : Sp := fun vs H Q _ => ∃ (b : Addr) (M : Bk) (z : Str) (j : Nat), vs = [.ref b, .str z] ∧ BookAt K C H b M ∧ M.Ok ∧ M.names[j]? = some z ∧ ∀ v H', Same H H' → Dt K H' v (dueD ((duesM M).getD j none)) → Q v H'
theorem ok_due {f fp C : Addr} {fd fdp : FuncData} (F : Fun K "due_of" "due_of" sDue f fd) (T : ClsF K C) (B : Blt mg) (PI' : HasM P w K mg base C 5 "pile" ["self", "who"] (spRow K C leftN) fp fdp) : FnOk P w K mg base CX0 6 f fd ["book", "who"] (spDue K C) := by
  refine F.ok scDue (fun vs H Q E h => ?_) (fun cdv A outer s H vs Q E hr h => ?_)
  · obtain ⟨_, _, _, _, rfl, _⟩ := h
    rfl
  · obtain ⟨b, M, z, j, rfl, hb, ok, ej, q⟩ := h
    refine ⟨_, pss_cons (ps_set (i := 2) scDue.nd rfl (.inl rfl) (pe_meth (pv 0) T.cl PI'.m PI'.ok hr PI'.b .nil pass0 (pa_cons (pv 1) pa_nil)))
      (pss_one (ps_ret (pe_ifExp (pt_cmpR op_gt (pe_callB call_len_seq (by rfl) B.len PySem.boot_len (pa_cons (pv 2) pa_nil)) pe_int (nomark _)) (pe_ix ix_list (pv 2) pe_int (fun _ _ => rfl)) pe_non))), ?_⟩
    obtain ⟨g, l, d, eg, el, ed, ll⟩ := ok.at_ ej
    obtain ⟨dx, tn, on, wg, ws, wd, e, h1, hn, h2, h3, h4⟩ := hb.ex
    refine ⟨.ref b, rfl, b, dx, _, rfl, e, bf_no (NoF.mk' (by decide +kernel)), .str z, rfl, b, M, z, j, l, d, rfl, hb, ok.names, ej, el, ed, by omega, fun r xs H1 s1 nr hr1 dr => ?_⟩
    refine ⟨.ref r, rfl, r, _, rfl, .inl (.inl (.inl hr1)), _, _, rfl, rfl, _, rfl, ?_⟩
    have eo : (duesM M).getD j none = (leftN l d).head? := getD_of (dues_at el ed)
    rw [eo] at q
    cases hl : leftN l d with
    | nil =>
      rw [hl] at dr q
      cases dr
      exact iteF (q .non H1 s1 .non)
    | cons n t =>
      rw [hl] at dr q
      cases dr with
      | cons d1 d2 =>
        rename_i x xr
        rw [show decide ((0 : Int) < ((x :: xr).length : Int)) = true from decide_eq_true (by rw [List.length_cons]; omega)]
        exact iteT ⟨.ref r, rfl, r, _, 0, x, rfl, rfl, .inl (.inl hr1), atI_nat (j := 0) rfl, q x H1 s1 d1⟩
/-! ### all_dues -/
abbrev sDues : Stmt := topS 10
abbrev nDues : List Str := ["book", "who"]
theorem scDues : FnScope nDues ["book"] (defScope sDues) := ⟨rfl, rfl, rfl, by decide +kernel, rfl, by decide +kernel, by decide +kernel⟩
def spDues (K : PySem.W.Frag) (C : Addr) : Sp := fun vs H Q _ => ∃ (b : Addr) (M : Bk), vs = [.ref b] ∧ BookAt K C H b M ∧ M.Ok ∧ ∀ d H', Same H H' → H d = none → DuesU K H' d M.names (duesM M) → Q (.ref d) H'
theorem ok_dues {f f1 f2 C : Addr} {fd fd1 fd2 : FuncData} (F : Fun K "all_dues" "all_dues" sDues f fd) (T : ClsF K C) (PS' : HasM P w K mg base C 1 "persons" ["self"] (spPersons K C) f1 fd1)
    (DU : Has P w K mg base 6 "due_of" ["book", "who"] (spDue K C) f2 fd2) : FnOk P w K mg base CX0 7 f fd ["book"] (spDues K C) := by
  refine F.ok scDues (fun vs H Q E h => ?_) (fun cdv A outer s H vs Q E hr h => ?_)
  · obtain ⟨_, _, rfl, _⟩ := h
    rfl
  · obtain ⟨b, M, rfl, hb, ok, q⟩ := h
    have hr1 := hr.mono (show 1 ≤ 6 by decide)
    refine ⟨_, pss_one (ps_ret (pe_dc (own := [("who", 1)]) (g := gName 1) (tt := tYes) rfl scDues.nd (pi_list (pe_meth0 (pv 0) T.cl PS'.m PS'.ok hr1 PS'.b .nil pass0)) (blkOk_by (N := nDues) (sc := defScope sDues) (own := [("who", 1)]) (by decide +kernel))
      (fun _ _ _ _ _ => pg_name (i := 1) scDues.nd rfl (.inl rfl) (hf := .inr rfl)) (fun _ _ _ _ _ => pts_nil) (fun _ _ _ _ _ => pv 1)
      (fun _ _ _ _ _ => pe_call DU.ok hr (by rfl) DU.g DU.kp DU.b .nil pass0 (pa_cons (pv 0) (pa_cons (pv 1) pa_nil))))), ?_⟩
    obtain ⟨dx, tn, on, wg, ws, wd, e, h1, hn, h2, h3, h4⟩ := hb.ex
    refine ⟨.ref b, rfl, b, dx, _, rfl, e, bf_no (NoF.mk' (by decide +kernel)), b, M, rfl, hb, fun l nl => ⟨l, rfl, ⟨_, .inl (.inl upd_same)⟩, fun D nD => ?_⟩⟩
    have s1 := same_upd (o := .lst (M.names.map V.str)) nl
    have hl1 : upd H l (.lst (M.names.map V.str)) l = some (.lst (M.names.map V.str)) := upd_same
    have nDH : H D = none := s1.free nD
    generalize upd H l (.lst (M.names.map V.str)) = H1 at s1 hl1 nD
    have ld := dues_len ok
    have n12 := ok.n1
    have lnm : (M.names.map V.str).length = M.names.length := List.length_map ..
    refine out_it (walk_list (K := K) (a := l) (xs := M.names.map V.str)) (fun i H' => Same H1 H' ∧ ∃ vs, H' D = some (.dK (dct (M.names.take i) vs)) ∧ vs.length = i ∧ DtAll K H' vs (((duesM M).take i).map dueD)) ⟨same_upd nD, [], upd_same, rfl, .nil⟩ (fun i H' _ hP => .inl (.inl (hP.1 _ _ hl1)))
      (fun i x H2' H2 hi hP hY => ?_) (fun H2 hP => ?_)
    · obtain ⟨rfl, hx⟩ := hY
      obtain ⟨s2, vs, hD, lv, dv⟩ := hP
      rw [lnm] at hi
      have ex : x = .str M.names[i] := by
        rw [List.getElem?_map, List.getElem?_eq_getElem hi] at hx
        exact (Option.some.inj hx).symm
      subst ex
      have s02 := s1.trans s2
      refine ⟨rfl, _, rfl, .ref b, rfl, _, rfl, b, M, _, i, rfl, book_same hb s02, ok, List.getElem?_eq_getElem hi, fun v H3 s3 d3 => ?_⟩
      have hD3 := s3 _ _ hD
      refine ⟨_, Sum.inr M.names[i], rfl, hD3, ?_, fun c o ec => ?_, ?_⟩
      · rw [dct_len (by rw [lv, List.length_take]; omega), List.length_take]
        exact small1000 (by omega)
      · rw [upd_ne (ne_of_none ec nD)]
        exact s3 _ _ (s2 c o ec)
      · have no : ∀ kv ∈ dct (M.names.take i) vs, ¬ kv.1 = (Sum.inr M.names[i] : Key) := dct_nokey fun z => by
          obtain ⟨j, hj, e'⟩ := List.getElem_of_mem z
          rw [List.length_take] at hj
          rw [List.getElem_take] at e'
          have := (List.getElem_inj ok.nd).mp e'
          omega
        have kt : KT H3 (upd H3 D (.dK (putK (dct (M.names.take i) vs) (Sum.inr M.names[i]) v))) := kt_upd hD3 fun z => z
        refine ⟨vs ++ [v], ?_, by rw [List.length_append, lv]; rfl, ?_⟩
        · rw [upd_same, put_new no, ← dct_snoc (by rw [lv, List.length_take]; omega), ← take_succ hi]
        · have hid : i < (duesM M).length := by omega
          rw [take_succ hid, List.map_append]
          refine (DtAll.keepT kt _ (tupDs_map tup_due _) (DtAll.same s3 _ dv)).append (.cons ?_ .nil)
          rw [getD_of (List.getElem?_eq_getElem hid)] at d3
          exact Dt.keepT kt _ (tup_due _) d3
    · obtain ⟨s2, vs, hD, lv, dv⟩ := hP
      rw [lnm, List.take_length] at hD
      rw [lnm, ← ld, List.take_length] at dv
      exact q D H2 (s1.trans s2) nDH ⟨vs, hD, dv⟩
end
end Rc

namespace Rc
open PySem PySem.Spec PyProof.Rows L2 RZ
section
variable {P : Program} {w : World} {K : PySem.W.Frag} {mg : Str → Option Value} {base : Heap}
/-! ### check_person -/
abbrev sCkP : Stmt := topS 14
theorem scCkP : FnScope ["book", "who"] ["book", "who"] (defScope sCkP) := ⟨rfl, rfl, rfl, by decide +kernel, rfl, by decide +kernel, by decide +kernel⟩
def spCkP (K : PySem.W.Frag) (C : Addr) : Sp := fun vs H Q _ => ∃ (b : Addr) (M : Bk) (z : Str), vs = [.ref b, .str z] ∧ BookAt K C H b M ∧ M.Ok ∧ z ∈ M.names ∧ ∀ H', Same H H' → Q .non H'
theorem ok_ckP {f f1 C : Addr} {fd fd1 : FuncData} (F : Fun K "check_person" "check_person" sCkP f fd) (T : ClsF K C) (HS : HasM P w K mg base C 2 "has" ["self", "who"] (spHas K C) f1 fd1) : FnOk P w K mg base CX0 3 f fd ["book", "who"] (spCkP K C) := by
  refine F.ok scCkP (fun vs H Q E h => ?_) (fun cdv A outer s H vs Q E hr h => ?_)
  · obtain ⟨_, _, _, rfl, _⟩ := h
    rfl
  · obtain ⟨b, M, z, rfl, hb, ok, hz, q⟩ := h
    refine ⟨_, pss_one (ps_if (pt_not (pt_val (pe_meth (pv 0) T.cl HS.m HS.ok hr HS.b .nil pass0 (pa_cons (pv 1) pa_nil)))) pss_never pss_nil), ?_⟩
    obtain ⟨dx, tn, on, wg, ws, wd, e, h1, hn, h2, h3, h4⟩ := hb.ex
    have lz := (nameT_len (ok.nm z hz)).2
    refine ⟨.ref b, rfl, b, dx, _, rfl, e, bf_no (NoF.mk' (by decide +kernel)), .str z, rfl, b, M, .str z, .str z, rfl, hb, ok.names, .str z, (fun y ey => by cases ey; omega), fun H1 s1 => ⟨_, rfl, ?_⟩⟩
    have eh : hasD M (.str z) = true := decide_eq_true hz
    rw [eh]
    exact iteF (q H1 s1)
/-! ### ring_of, trail_of, ends_at -/
abbrev sRgO : Stmt := topS 15
theorem scRgO : FnScope ["book", "who"] ["book", "who"] (defScope sRgO) := ⟨rfl, rfl, rfl, by decide +kernel, rfl, by decide +kernel, by decide +kernel⟩
def spRgO (K : PySem.W.Frag) (C : Addr) : Sp := fun vs H Q _ => ∃ (b : Addr) (M : Bk) (z : Str), vs = [.ref b, .str z] ∧ BookAt K C H b M ∧ M.Ok ∧ Closed M ∧ z ∈ M.names ∧ ∀ v H', Same H H' → RingV H H' v (ringM M.names (nxM M) z) → Q v H'
theorem ok_rgO {f f1 f2 f3 C : Addr} {fd fd1 fd2 fd3 : FuncData} (F : Fun K "ring_of" "ring_of" sRgO f fd) (CP : Has P w K mg base 3 "check_person" ["book", "who"] (spCkP K C) f1 fd1)
    (RB : Has P w K mg base 2 "ring_by" ["dues", "who"] (spRgB K) f2 fd2) (AD : Has P w K mg base 7 "all_dues" ["book"] (spDues K C) f3 fd3) : FnOk P w K mg base CX0 8 f fd ["book", "who"] (spRgO K C) := by
  refine F.ok scRgO (fun vs H Q E h => ?_) (fun cdv A outer s H vs Q E hr h => ?_)
  · obtain ⟨_, _, _, rfl, _⟩ := h
    rfl
  · obtain ⟨b, M, z, rfl, hb, ok, cl, hz, q⟩ := h
    refine ⟨_, pss_cons (ps_expr (pe_call CP.ok (hr.mono (by decide)) (by rfl) CP.g CP.kp CP.b .nil pass0 (pa_cons (pv 0) (pa_cons (pv 1) pa_nil))))
      (pss_one (ps_ret (pe_call RB.ok (hr.mono (by decide)) (by rfl) RB.g RB.kp RB.b .nil pass0 (pa_cons (pe_call AD.ok hr (by rfl) AD.g AD.kp AD.b .nil pass0 (pa_cons (pv 0) pa_nil)) (pa_cons (pv 1) pa_nil))))), ?_⟩
    refine ⟨.ref b, rfl, .str z, rfl, b, M, z, rfl, hb, ok, hz, fun H1 s1 => ?_⟩
    refine ⟨.ref b, rfl, b, M, rfl, book_same hb s1, ok, fun d H2 s2 nd hd => ?_⟩
    refine ⟨.str z, rfl, d, z, M.names, duesM M, rfl, hd.at, walks_of ok cl, hz, fun v H3 s3 rv => ?_⟩
    exact q v H3 (s1.trans (s2.trans s3)) (rv.same (Same.refl _) (s1.trans s2))
end
end Rc

namespace Rc
open PySem PySem.Spec PyProof.Rows L2 RZ
section
variable {X : Cx}
theorem ix_listS {K : PySem.W.Frag} (e : X.K = K) : IxR X (rIxL K) := by
  subst e
  exact ix_list
theorem ix_tupS {K : PySem.W.Frag} (e : X.K = K) : IxR X (rIxT K) := by
  subst e
  exact ix_tup
theorem mt_indexS {K : PySem.W.Frag} (e : X.K = K) : MtR X "list.index" (rIndex K) := by
  subst e
  exact mt_index
theorem pe_bmK {K : PySem.W.Frag} (eK : X.K = K) {o e : Expr} {es : List Expr} {to : TE} {t : TA} {name : Str} {apos cpos : Pos} {T id : String} {r : V → List V → Hp → VK → Prop} (pa : PlainAttrs T) (slot : Slot T name id) (hty : typeOf (.builtin id) = pure (.type "method_descriptor")) (hm : MtR X id r) (ho : PE X o to) (ha : PA X (e :: es) t)
    (hbase : attributeBase o name X.env (eval o X.env) = eval o X.env := by rfl)
    (hfew : ((backTo cpos (starEach (e :: es) X.env)).all (fun x => !x.1) && (backToKw cpos (keywordEach [] X.env)).all (fun x => x.1.isSome)
      && decide ((e :: es).length + ([] : List Keyword).length + (if ([] : List Keyword).isEmpty then 0 else 1) < 30)) = true := by rfl)
    (hline : (apos.endLine == cpos.line) = true := by rfl) (hs : starEach (e :: es) X.env = (false, eval e X.env) :: starEach es X.env := by rfl) (hplain : (backTo cpos (starEach es X.env)).any (·.1) = false := by rfl) :
    PE X (.Call (.Attribute o name apos) (e :: es) [] cpos) (tBM K T r to t) := by
  subst eK
  exact pe_bm pa slot hty hm ho ha hbase hfew hline hs hplain
end
/-- a model that may be -/
structure Gs (zs : List Str) (D : Md) : Prop where
  nz : NamesOk zs
  nt : ∀ l ∈ D.notes, ∀ n ∈ l, NoteOk zs n
  fl : ∀ f ∈ D.fallen, 0 ≤ f
  my : (D.notes.map List.length).sum ≤ 60
  lg : D.given.length = zs.length
  lf : D.fallen.length = zs.length
  ln : D.notes.length = zs.length
  cs : ∀ (j : Nat) (z : Str), zs[j]? = some z → 0 ≤ cashM (bkOf zs D) j z
theorem Gs.ok {zs : List Str} {D : Md} (g : Gs zs D) : (bkOf zs D).Ok := ⟨g.nz.n0, g.nz.n1, g.nz.nd, g.nz.nm, g.lg, g.ln, g.lf, g.my⟩
theorem Gs.closed {zs : List Str} {D : Md} (g : Gs zs D) : Closed (bkOf zs D) := fun l hl n hn => (g.nt l hl n hn).1
theorem Gs.rows {zs : List Str} {D : Md} (g : Gs zs D) : RowsOk D := fun l hl => Nat.le_trans (len_le_sum hl) g.my
theorem Gs.walks {zs : List Str} {D : Md} (g : Gs zs D) : Walks zs (duesM (bkOf zs D)) := walks_of g.ok g.closed
theorem Gs.left {zs : List Str} {D : Md} (g : Gs zs D) {j : Nat} {l : List (Str × Int)} {f : Int} (el : D.notes[j]? = some l) (ef : D.fallen[j]? = some f) : ∀ n ∈ leftN l f, NoteOk zs n :=
  leftN_ok (g.nt l (List.mem_of_getElem? el)) (g.fl f (List.mem_of_getElem? ef))
theorem Gs.due {zs : List Str} {D : Md} (g : Gs zs D) {n : Str × Int} (h : some n ∈ duesM (bkOf zs D)) : NoteOk zs n := by
  obtain ⟨l, f, hl, hf, hn⟩ := dues_mem h
  exact leftN_ok (g.nt l hl) (g.fl f hf) n hn
/-- what the law's walk goes by -/
abbrev nxD (zs : List Str) (D : Md) : Str → Option Str := nxOf zs (duesM (bkOf zs D))
theorem nxD_at {zs : List Str} {D : Md} {j : Nat} {z : Str} {l : List (Str × Int)} {f : Int} (nd : zs.Nodup) (ej : zs[j]? = some z) (el : D.notes[j]? = some l) (ef : D.fallen[j]? = some f) : nxD zs D z = (leftN l f).head?.map (·.1) := by
  have hj : j < zs.length := (List.getElem?_eq_some_iff.mp ej).1
  have ez : zs[j] = z := (List.getElem?_eq_some_iff.mp ej).2
  have ei : zs.idxOf z = j := by
    rw [← ez]
    exact nd.idxOf_getElem j hj
  show ((duesM (bkOf zs D)).getD (zs.idxOf z) none).map (·.1) = _
  rw [ei, getD_of (dues_at (M := bkOf zs D) el ef)]
end Rc

namespace Rc
open PySem PySem.Spec PyProof.Rows L2 RZ
/-! ### the model's own changes -/
section
variable {K : PySem.W.Frag} {H : Hp} {zs : List Str} {a : MdA} {D : Md}
theorem ModelAt.ofm (h : ModelAt K H zs a D) (n0 : 1 ≤ zs.length) : a.df ≠ a.m := fun z => by
  have e := h.hf
  rw [z, h.hm] at e
  have e1 : dct keysM [.ref a.lo, .ref a.dg, .ref a.df, .ref a.dn] = dct zs (D.fallen.map V.int) := HO.dK.inj (Option.some.inj e)
  have l2 := h.lf
  match zs, D.fallen, n0, l2, e1 with
  | z :: r, y :: u, _, _, e1 =>
    rw [List.map_cons, dct_cons] at e1
    unfold keysM at e1
    rw [dct_cons] at e1
    cases e1
/-- another sum fallen -/
theorem ModelAt.setF (hM : ModelAt K H zs a D) (n0 : 1 ≤ zs.length) {j : Nat} (g : Int) : ModelAt K (upd H a.df (.dK (dct zs ((D.fallen.set j g).map V.int)))) zs a { D with fallen := D.fallen.set j g } := by
  have kt : KT H (upd H a.df (.dK (dct zs ((D.fallen.set j g).map V.int)))) := kt_upd hM.hf fun z => z
  have lne : ∀ {c : Addr} {ys : List V}, H c = some (.lst ys) → c ≠ a.df := fun {c ys} e z => by
    rw [z, hM.hf] at e
    cases e
  refine ⟨?_, ?_, ?_, ?_, ?_, fun i r l e1 e2 => ?_, hM.nd, hM.olo, hM.ogf, hM.ogn, hM.ogm, hM.omn, hM.zn, hM.lg, ?_, hM.ln, hM.lr⟩
  · rw [upd_ne (hM.ofm n0).symm]
    exact hM.hm
  · rw [upd_ne (lne hM.ho)]
    exact hM.ho
  · rw [upd_ne hM.ogf]
    exact hM.hg
  · rw [upd_same]
  · rw [upd_ne (hM.ofn n0).symm]
    exact hM.hn
  · obtain ⟨xs, e3, d3⟩ := hM.rows i r l e1 e2
    refine ⟨xs, ?_, DtAll.keepT kt _ (tup_notes l) d3⟩
    rw [upd_ne (lne e3)]
    exact e3
  · show (D.fallen.set _ _).length = _
    rw [List.length_set]
    exact hM.lf
/-- one note more -/
theorem ModelAt.app (hM : ModelAt K H zs a D) {j : Nat} {r t : Addr} {xs : List V} {l : List (Str × Int)} {y : Str} {n : Int} (er : a.rs[j]? = some r) (el : D.notes[j]? = some l) (hr0 : H r = some (.lst xs)) (hd0 : DtAll K H xs (notesD l)) (nt : H t = none) :
    ModelAt K (upd (upd H t (.tup [.str y, .int n])) r (.lst (xs ++ [.ref t]))) zs a { D with notes := D.notes.set j (l ++ [(y, n)]) } ∧ ButF a H (upd (upd H t (.tup [.str y, .int n])) r (.lst (xs ++ [.ref t]))) := by
  have tr : t ≠ r := (ne_of_none hr0 nt).symm
  have rm : r ∈ a.rs := List.mem_of_getElem? er
  have bf' : ButF a H (upd (upd H t (.tup [V.str y, V.int n])) r (.lst (xs ++ [V.ref t]))) := fun b o nf e => by
    have nb : b ≠ r := fun z => nf (.inr (by rw [z]; exact rm))
    rw [upd_ne nb, upd_ne (ne_of_none e nt)]
    exact e
  have keepD : ∀ {b : Addr} {o : HO}, b ≠ r → H b = some o → upd (upd H t (.tup [V.str y, V.int n])) r (.lst (xs ++ [V.ref t])) b = some o := fun {b o} n e => by
    rw [upd_ne n, upd_ne (ne_of_none e nt)]
    exact e
  have dne : ∀ {b : Addr} {kvs : List (Key × V)}, H b = some (.dK kvs) → b ≠ r := fun {b kvs} e z => by
    rw [z, hr0] at e
    cases e
  have hkt := bf'.kt hM
  refine ⟨⟨keepD (dne hM.hm) hM.hm, keepD (fun z => hM.olo (by rw [z]; exact rm)) hM.ho, keepD (dne hM.hg) hM.hg, keepD (dne hM.hf) hM.hf, keepD (dne hM.hn) hM.hn, fun i r' l' e1 e2 => ?_, hM.nd, hM.olo, hM.ogf, hM.ogn, hM.ogm, hM.omn, hM.zn, hM.lg, hM.lf, ?_, hM.lr⟩, bf'⟩
  · by_cases hi : i = j
    · have er' : r' = r := by
        rw [hi, er] at e1
        exact (Option.some.inj e1).symm
      subst er'
      have e2' : (D.notes.set j (l ++ [(y, n)]))[i]? = some l' := e2
      have hj : j < D.notes.length := (List.getElem?_eq_some_iff.mp el).1
      rw [hi, List.getElem?_set_self hj] at e2'
      cases e2'
      refine ⟨_, upd_same, ?_⟩
      unfold notesD
      rw [List.map_append]
      refine (DtAll.keepT hkt _ (tup_notes l) hd0).append (.cons (.tup (.inl (.inl ?_)) (.cons (.str _) (.cons (.int _) .nil))) .nil)
      rw [upd_ne tr, upd_same]
    · have e2' : (D.notes.set j (l ++ [(y, n)]))[i]? = some l' := e2
      rw [List.getElem?_set_ne (fun c => hi c.symm)] at e2'
      obtain ⟨xs', e3, d3⟩ := hM.rows i r' l' e1 e2'
      have nr' : r' ≠ r := fun c => by
        obtain ⟨h1, k1⟩ := List.getElem?_eq_some_iff.mp e1
        obtain ⟨h2, k2⟩ := List.getElem?_eq_some_iff.mp er
        exact hi ((List.getElem_inj hM.nd).mp (k1.trans (c.trans k2.symm)))
      exact ⟨xs', keepD nr' e3, DtAll.keepT hkt _ (tup_notes l') d3⟩
  · show (D.notes.set _ _).length = _
    rw [List.length_set]
    exact hM.ln
end
/-! ### where nothing has fallen yet -/
theorem Gd.gs {zs : List Str} {D : Md} {k : Nat} (h : Gd zs D k) (nz : NamesOk zs) (lg : D.given.length = zs.length) (ln : D.notes.length = zs.length) : Gs zs D := by
  refine ⟨nz, h.nt, fun f hf => ?_, Nat.le_trans h.my h.k1, lg, ?_, ln, fun j z ej => ?_⟩
  · rw [h.zf] at hf
    rw [List.eq_of_mem_replicate hf]
    exact Int.le_refl _
  · rw [h.zf]
    exact List.length_replicate
  · have hj : j < zs.length := (List.getElem?_eq_some_iff.mp ej).1
    have hg : j < D.given.length := by omega
    have hf : D.fallen[j]? = some 0 := by
      rw [h.zf]
      show (List.replicate zs.length (0 : Int))[j]? = some 0
      rw [List.getElem?_replicate, if_pos hj]
    rw [cash_eq]
    unfold cashD
    rw [h.sums, getD_of (List.getElem?_eq_getElem hg), getD_of hf]
    have := (h.gv _ (List.getElem_mem hg)).1
    omega
/-! ### what a fall does -/
theorem sum_zip_set {α : Type} (F : List (Str × Int) × Int → Int) : ∀ (L : List (List (Str × Int))) (fs : List Int) (j : Nat) (l : List (Str × Int)) (f x : Int), L[j]? = some l → fs[j]? = some f →
    ((L.zip (fs.set j x)).map F).sum = ((L.zip fs).map F).sum + (F (l, x) - F (l, f))
  | [], _, _, _, _, _, h, _ => by simp at h
  | _ :: _, [], _, _, _, _, _, h => by simp at h
  | a :: L, b :: fs, 0, l, f, x, h1, h2 => by
    simp at h1 h2
    subst h1 h2
    simp only [List.set_cons_zero, List.zip_cons_cons, List.map_cons, List.sum_cons]
    omega
  | a :: L, b :: fs, j + 1, l, f, x, h1, h2 => by
    have ih := sum_zip_set (α := α) F L fs j l f x (by simpa using h1) (by simpa using h2)
    simp only [List.set_cons_succ, List.zip_cons_cons, List.map_cons, List.sum_cons]
    omega
def fellD (D : Md) (j : Nat) (x : Int) : Md := { D with fallen := D.fallen.set j x }
theorem fellD_cash {zs : List Str} {D : Md} {j : Nat} {z t : Str} {l r : List (Str × Int)} {f m b : Int} (g : Gs zs D) (ej : zs[j]? = some z) (el : D.notes[j]? = some l) (ef : D.fallen[j]? = some f) (e : leftN l f = (t, b) :: r) (m0 : 0 ≤ m) (mb : m ≤ b)
    {i : Nat} {y : Str} (ei : zs[i]? = some y) : cashM (bkOf zs (fellD D j (f + m))) i y = cashM (bkOf zs D) i y + (if t = y then m else 0) - (if i = j then m else 0) := by
  have f0 := g.fl f (List.mem_of_getElem? ef)
  obtain ⟨_, h2⟩ := fall_one (fun n hn => (g.nt l (List.mem_of_getElem? el) n hn).2.1) f0 m0 mb e
  have e1 : fallTo (bkOf zs (fellD D j (f + m))) y = fallTo (bkOf zs D) y + (if t = y then m else 0) := by
    show ((D.notes.zip (D.fallen.set j (f + m))).map fun p => sumTo y (goneN p.1 p.2)).sum = ((D.notes.zip D.fallen).map fun p => sumTo y (goneN p.1 p.2)).sum + _
    rw [sum_zip_set (α := Nat) (fun p => sumTo y (goneN p.1 p.2)) D.notes D.fallen j l f (f + m) el ef]
    show _ + (sumTo y (goneN l (f + m)) - sumTo y (goneN l f)) = _
    rw [h2 y]
    omega
  have e2 : (bkOf zs (fellD D j (f + m))).drops.getD i 0 = (bkOf zs D).drops.getD i 0 + (if i = j then m else 0) := by
    show (D.fallen.set j (f + m)).getD i 0 = D.fallen.getD i 0 + _
    by_cases h : i = j
    · subst h
      rw [if_pos rfl, getD_of ef]
      have hj : i < D.fallen.length := (List.getElem?_eq_some_iff.mp ef).1
      rw [getD_of (List.getElem?_set_self hj)]
    · rw [if_neg h, List.getD_eq_getElem?_getD, List.getElem?_set_ne (fun c => h c.symm), List.getD_eq_getElem?_getD]
      omega
  unfold cashM
  rw [e1, e2]
  show (bkOf zs D).gifts.getD i 0 + _ - _ = _
  omega
theorem moreAt_one (z : Str) (m : Int) (y : Str) : moreAt [(z, m)] y = if z = y then m else 0 := by
  unfold moreAt
  by_cases h : z = y <;> simp [h]
theorem fell_eq {zs : List Str} {D : Md} {j : Nat} {z : Str} {f m : Int} (nd : zs.Nodup) (lf : D.fallen.length = zs.length) (ej : zs[j]? = some z) (ef : D.fallen[j]? = some f) : fallM (bkOf zs D) [(z, m)] = bkOf zs (fellD D j (f + m)) := by
  have e : ((zs.zip D.fallen).map fun p => p.2 + moreAt [(z, m)] p.1) = D.fallen.set j (f + m) := by
    refine List.ext_getElem? fun i => ?_
    rw [List.getElem?_map]
    by_cases hi : i < zs.length
    · have hf : i < D.fallen.length := by omega
      rw [List.getElem?_zip_eq_some (z := (zs[i], D.fallen[i])) |>.mpr ⟨List.getElem?_eq_getElem hi, List.getElem?_eq_getElem hf⟩]
      show some (D.fallen[i] + moreAt [(z, m)] zs[i]) = _
      rw [moreAt_one]
      obtain ⟨hj, ez⟩ := List.getElem?_eq_some_iff.mp ej
      obtain ⟨hjf, ev⟩ := List.getElem?_eq_some_iff.mp ef
      by_cases h : i = j
      · subst h
        rw [if_pos ez.symm, List.getElem?_set_self hf, ev]
      · rw [if_neg (fun c => h ((List.getElem_inj nd).mp (c.symm.trans ez.symm))), List.getElem?_set_ne (fun c => h c.symm), List.getElem?_eq_getElem hf, Int.add_zero]
    · rw [List.getElem?_eq_none (by rw [List.length_zip]; omega), List.getElem?_eq_none (by rw [List.length_set]; omega)]
      rfl
  show Bk.mk zs D.given D.notes ((zs.zip D.fallen).map fun p => p.2 + moreAt [(z, m)] p.1) = _
  rw [e]
  rfl
/-- some of a due note falls: to oneself, or by cash -/
theorem Gs.fall {zs : List Str} {D : Md} {j : Nat} {z t : Str} {l r : List (Str × Int)} {f m b : Int} (g : Gs zs D) (ej : zs[j]? = some z) (el : D.notes[j]? = some l) (ef : D.fallen[j]? = some f) (e : leftN l f = (t, b) :: r) (m0 : 0 ≤ m) (mb : m ≤ b)
    (hc : t = z ∨ m ≤ cashM (bkOf zs D) j z) : Gs zs (fellD D j (f + m)) ∧ FallOk (bkOf zs D) [(z, m)] := by
  have f0 := g.fl f (List.mem_of_getElem? ef)
  obtain ⟨h1, _⟩ := fall_one (fun n hn => (g.nt l (List.mem_of_getElem? el) n hn).2.1) f0 m0 mb e
  have cs : ∀ (i : Nat) (y : Str), zs[i]? = some y → 0 ≤ cashM (bkOf zs (fellD D j (f + m))) i y := fun i y ei => by
    rw [fellD_cash g ej el ef e m0 mb ei]
    have c0 := g.cs i y ei
    by_cases h : i = j
    · subst h
      have ey : y = z := Option.some.inj (ei.symm.trans ej)
      subst ey
      rw [if_pos rfl]
      rcases hc with hc | hc
      · rw [if_pos hc]
        omega
      · have : 0 ≤ (if t = y then m else 0) := by split <;> omega
        omega
    · rw [if_neg h]
      have : 0 ≤ (if t = y then m else 0) := by split <;> omega
      omega
  refine ⟨⟨g.nz, g.nt, fun x hx => ?_, g.my, g.lg, ?_, g.ln, cs⟩, ?_, fun i y ei => ?_⟩
  · rcases List.mem_or_eq_of_mem_set hx with hx | hx
    · exact g.fl x hx
    · omega
  · show (D.fallen.set _ _).length = _
    rw [List.length_set]
    exact g.lf
  · intro p hp
    rw [List.mem_singleton.mp hp]
    exact ⟨j, l, f, ej, el, ef, m0, h1⟩
  · rw [fell_eq g.nz.nd g.lf ej ef]
    exact cs i y ei
end Rc

namespace Rc
open PySem PySem.Spec PyProof.Rows L2 RZ
/-! ### what is told, as data -/
def ringD : Option (List Str) → PyData
  | none => .none
  | some r => .list (r.map .str)
def endD : Option Str → PyData
  | none => .none
  | some z => .str z
theorem RingV.dt {K : PySem.W.Frag} {H H' : Hp} {v : V} {o : Option (List Str)} (h : RingV H H' v o) : Dt K H' v (ringD o) := by
  cases o with
  | none =>
    have e : v = .non := h
    subst e
    exact .non
  | some r =>
    obtain ⟨a, rfl, _, e⟩ := h
    exact .lst (.inl (.inl e)) (DtAll.strs r)
theorem end_dt {K : PySem.W.Frag} {H : Hp} (o : Option Str) : Dt K H (nxV o) (endD o) := by
  cases o with
  | none => exact .non
  | some z => exact .str z
theorem NiceD.mono {d : PyData} {n m : Nat} (h : NiceD d n) (hm : n ≤ m) : NiceD d m := ⟨h.sh, h.lv, h.nd, h.dp, Nat.le_trans h.bk hm, h.cl⟩
theorem nice_none : NiceD .none 0 :=
  ⟨by simp only [PyData.showable], by simp only [PyData.leavesShort], by simp only [PyData.hasDict], by simp only [PyData.depth]; omega, by simp only [PyData.bulk]; omega, by simp only [PyData.canLay0]⟩
/-- nice and shallow -/
structure NiceS (d : PyData) (n : Nat) : Prop where
  ok : NiceD d n
  dp : d.depth ≤ 4
theorem niceS_none : NiceS .none 200 := ⟨nice_none.mono (by decide), by simp only [PyData.depth]; omega⟩
theorem niceS_names {zs : List Str} (h : ∀ z ∈ zs, nameT z = true) (l : zs.length ≤ 12) : NiceS (.list (zs.map .str)) 200 := by
  refine ⟨(nice_names h).list.mono (by omega), ?_⟩
  simp only [PyData.depth]
  have := dep_map (f := PyData.str) (n := 0) (l := zs) fun _ _ => by simp only [PyData.depth]; omega
  omega
theorem niceS_name {z : Str} (h : nameT z = true) : NiceS (.str z) 200 := ⟨(nice_name h).mono (by decide), by simp only [PyData.depth]; omega⟩
theorem niceS_due {zs : List Str} (hz : ∀ z ∈ zs, nameT z = true) {o : Option (Str × Int)} (h : ∀ n, o = some n → NoteOk zs n) : NiceS (dueD o) 200 := by
  cases o with
  | none => exact niceS_none
  | some n =>
    obtain ⟨a, b⟩ := nice_note hz (h n rfl)
    exact ⟨a.mono (by decide), by show (noteD n).depth ≤ 4; omega⟩
theorem niceS_ring {o : Option (List Str)} (h : ∀ r, o = some r → (∀ z ∈ r, nameT z = true) ∧ r.length ≤ 12) : NiceS (ringD o) 200 := by
  cases o with
  | none => exact niceS_none
  | some r =>
    obtain ⟨a, b⟩ := h r rfl
    exact niceS_names a b
theorem niceS_end {o : Option Str} (h : ∀ z, o = some z → nameT z = true) : NiceS (endD o) 200 := by
  cases o with
  | none => exact niceS_none
  | some z => exact niceS_name (h z rfl)
inductive NiceL : List PyData → Prop
  | nil : NiceL []
  | cons {d : PyData} {ds : List PyData} : NiceS d 200 → NiceL ds → NiceL (d :: ds)
theorem NiceL.all : ∀ {ds : List PyData}, NiceL ds → NiceA ds (201 * ds.length)
  | _, .nil => NiceA.nil
  | _, .cons (ds := ds) a b => by
    have c := NiceA.cons a.ok a.dp (NiceL.all b)
    rw [List.length_cons]
    have e : 201 * (ds.length + 1) = 200 + 1 + 201 * ds.length := by omega
    rw [e]
    exact c
theorem NiceL.top {ds : List PyData} (h : NiceL ds) (l : ds.length ≤ 30) : NiceD (.list ds) 8000 := h.all.list.mono (by omega)
/-! ### rings and trails are of persons -/
theorem ring_names {zs : List Str} {nx : Str → Option Str} {z : Str} (nm : ∀ z ∈ zs, nameT z = true) (lz : zs.length ≤ 12) (c : Leads zs nx) (hz : z ∈ zs) : ∀ r, ringM zs nx z = some r → (∀ y ∈ r, nameT y = true) ∧ r.length ≤ 12 := fun r h => by
  have en := trail_ended c hz
  unfold ringM at h
  split at h
  · have e := Option.some.inj h
    subst e
    refine ⟨fun y hy => nm y (en.sub y ?_), ?_⟩
    · rcases List.mem_append.mp hy with hy | hy
      · exact List.mem_of_mem_drop hy
      · exact List.mem_of_mem_take hy
    · rw [List.length_append, List.length_drop, List.length_take]
      have := Nat.le_trans (nodup_le _ _ en.nd en.sub) lz
      omega
  · cases h
theorem trail_names {zs : List Str} {nx : Str → Option Str} {z : Str} (nm : ∀ z ∈ zs, nameT z = true) (lz : zs.length ≤ 12) (c : Leads zs nx) (hz : z ∈ zs) : (∀ y ∈ trailM zs nx z, nameT y = true) ∧ (trailM zs nx z).length ≤ 12 := by
  have en := trail_ended c hz
  exact ⟨fun y hy => nm y (en.sub y hy), Nat.le_trans (nodup_le _ _ en.nd en.sub) lz⟩
theorem end_names {zs : List Str} {nx : Str → Option Str} {z : Str} (nm : ∀ z ∈ zs, nameT z = true) (c : Leads zs nx) (hz : z ∈ zs) : ∀ y, endM zs nx z = some y → nameT y = true := fun y h => by
  have en := trail_ended c hz
  obtain ⟨ini, x, e1, _⟩ := en.last
  unfold endM at h
  split at h
  · have e := Option.some.inj h
    rw [lastM_eq e1] at e
    subst e
    exact nm _ (en.sub _ (by rw [e1]; exact List.mem_append.mpr (.inr List.mem_cons_self)))
  · cases h
/-! ### a note to oneself is a ring -/
theorem self_trail {zs : List Str} {nx : Str → Option Str} {z : Str} (h : nx z = some z) : trailM zs nx z = [z] := by
  unfold trailM
  rw [h, trailF_in List.mem_cons_self]
theorem self_last {zs : List Str} {nx : Str → Option Str} {z : Str} (h : nx z = some z) : lastM zs nx z = z := lastM_eq (ini := []) (self_trail h)
theorem self_ring {zs : List Str} {nx : Str → Option Str} {z : Str} (h : nx z = some z) (hz : z ∈ zs) : ringM zs nx z = some [z] := by
  obtain ⟨f, r, _, e1, e2, _⟩ := find_some (T := [z]) hz List.mem_cons_self
  have ef : f = z := List.mem_singleton.mp e2
  unfold ringM
  rw [self_last h, if_pos h, self_trail h, e1, ef]
  simp
theorem self_end {zs : List Str} {nx : Str → Option Str} {z : Str} (h : nx z = some z) : endM zs nx z = none := by
  unfold endM
  rw [self_last h, h]
  rfl
/-- x[0] if x != [] else None, x a list of notes -/
def tFirst (K : PySem.W.Frag) (i : Nat) : TE := fun σ H Q => ∃ (m : Addr) (mx : List V) (l : List (Str × Int)) (zs : List Str), σ[i]? = some (some (.ref m)) ∧ H m = some (.lst mx) ∧ DtAll K H mx (notesD l) ∧ (∀ n ∈ l, NoteOk zs n) ∧ (∀ z ∈ zs, nameT z = true) ∧
  ∀ v H', Same H H' → Dt K H' v (dueD l.head?) → Q v H'
end Rc

namespace Rc
open PySem PySem.Spec PyProof.Rows L2 RZ
/-! ### the most that can be paid, cleared -/
def mostP (M : Bk) (j : Nat) (z : Str) : Int := match (duesM M).getD j none with
  | none => 0
  | some n => if cashM M j z < n.2 then cashM M j z else n.2
def amtAt (zs : List Str) (os : List (Option (Str × Int))) (y : Str) : Int := match os.getD (zs.idxOf y) none with
  | none => 0
  | some n => n.2
def leastI : List Int → Int
  | [] => 0
  | x :: r => r.foldl (fun a b => if b < a then b else a) x
theorem least_fold : ∀ (r : List Int) (x : Int), (r.foldl (fun a b => if b < a then b else a) x = x ∨ r.foldl (fun a b => if b < a then b else a) x ∈ r) ∧ r.foldl (fun a b => if b < a then b else a) x ≤ x ∧ ∀ y ∈ r, r.foldl (fun a b => if b < a then b else a) x ≤ y
  | [], x => ⟨.inl rfl, Int.le_refl _, fun y hy => by cases hy⟩
  | b :: r, x => by
    obtain ⟨h1, h2, h3⟩ := least_fold r (if b < x then b else x)
    rw [List.foldl_cons]
    refine ⟨?_, ?_, fun y hy => ?_⟩
    · rcases h1 with h1 | h1
      · rw [h1]
        by_cases c : b < x
        · rw [if_pos c]
          exact .inr List.mem_cons_self
        · rw [if_neg c]
          exact .inl rfl
      · exact .inr (List.mem_cons_of_mem _ h1)
    · refine Int.le_trans h2 ?_
      split <;> omega
    · rcases List.mem_cons.mp hy with hy | hy
      · subst hy
        refine Int.le_trans h2 ?_
        split <;> omega
      · exact h3 y hy
theorem least_mem {ns : List Int} (h : ns ≠ []) : leastI ns ∈ ns ∧ ∀ y ∈ ns, leastI ns ≤ y := by
  cases ns with
  | nil => exact absurd rfl h
  | cons x r =>
    obtain ⟨h1, h2, h3⟩ := least_fold r x
    refine ⟨?_, fun y hy => ?_⟩
    · rcases h1 with h1 | h1
      · exact List.mem_cons.mpr (.inl h1)
      · exact List.mem_cons_of_mem _ h1
    · rcases List.mem_cons.mp hy with hy | hy
      · subst hy
        exact h2
      · exact h3 y hy
theorem least_uniq {ns : List Int} {m : Int} (h1 : m ∈ ns) (h2 : ∀ y ∈ ns, m ≤ y) : m = leastI ns := by
  obtain ⟨a, b⟩ := least_mem (ns := ns) (fun e => by rw [e] at h1; cases h1)
  have := h2 _ a
  have := b _ h1
  omega
def mostC (zs : List Str) (os : List (Option (Str × Int))) (z : Str) : Int := match ringM zs (nxOf zs os) z with
  | none => 0
  | some r => leastI (r.map (amtAt zs os))
theorem mostC_none {zs : List Str} {os : List (Option (Str × Int))} {z : Str} (h : ringM zs (nxOf zs os) z = none) : mostC zs os z = 0 := by
  unfold mostC
  rw [h]
theorem mostC_some {zs : List Str} {os : List (Option (Str × Int))} {z : Str} {r : List Str} (h : ringM zs (nxOf zs os) z = some r) : mostC zs os z = leastI (r.map (amtAt zs os)) := by
  unfold mostC
  rw [h]
theorem mostP_none {M : Bk} {j : Nat} {z : Str} (h : (duesM M).getD j none = none) : mostP M j z = 0 := by
  unfold mostP
  rw [h]
theorem mostP_some {M : Bk} {j : Nat} {z : Str} {n : Str × Int} (h : (duesM M).getD j none = some n) : mostP M j z = if cashM M j z < n.2 then cashM M j z else n.2 := by
  unfold mostP
  rw [h]
end Rc

namespace Rc
open PySem PySem.Spec PyProof.Rows L2 RZ
/-! ### bounds, for what is shown -/
structure Gb (D : Md) : Prop where
  gv : ∀ g ∈ D.given, 0 ≤ g ∧ g ≤ 100 * 10 ^ 58
  fw : ∀ (j : Nat) (l : List (Str × Int)) (f : Int), D.notes[j]? = some l → D.fallen[j]? = some f → f ≤ wholeN l
theorem wholeN_le {zs : List Str} : ∀ {l : List (Str × Int)}, (∀ n ∈ l, NoteOk zs n) → wholeN l ≤ (l.length : Int) * 10 ^ 58
  | [], _ => by simp [wholeN]
  | n :: r, h => by
    have ih := wholeN_le fun m hm => h m (List.mem_cons_of_mem _ hm)
    have h1 : n.2 ≤ 10 ^ 58 := (h n List.mem_cons_self).2.2
    rw [wholeN_cons, List.length_cons]
    have e : ((r.length + 1 : Nat) : Int) * 10 ^ 58 = (r.length : Int) * 10 ^ 58 + 10 ^ 58 := by
      rw [Int.natCast_add, Int.add_mul]
      rfl
    rw [e]
    omega
theorem sumTo_le (z : Str) : ∀ {l : List (Str × Int)} {f : Int}, (∀ n ∈ l, 1 ≤ n.2) → 0 ≤ f → 0 ≤ sumTo z (goneN l f) ∧ sumTo z (goneN l f) ≤ wholeN l
  | [], f, _, _ => ⟨Int.le_refl _, Int.le_refl _⟩
  | (t, a) :: r, f, h, f0 => by
    have h1 : 1 ≤ a := h _ List.mem_cons_self
    have hp : 0 ≤ partOf a f ∧ partOf a f ≤ f ∧ partOf a f ≤ a := by
      unfold partOf
      split <;> omega
    obtain ⟨i1, i2⟩ := sumTo_le z (l := r) (f := f - partOf a f) (fun m hm => h m (List.mem_cons_of_mem _ hm)) (by omega)
    rw [goneN_cons, sumTo_app, sumTo_one z t _ hp.1, wholeN_cons]
    have : 0 ≤ (if t = z then partOf a f else 0) ∧ (if t = z then partOf a f else 0) ≤ a := by
      split <;> omega
    exact ⟨by omega, by show _ ≤ a + wholeN r; omega⟩
theorem sums_le (z : Str) : ∀ {L : List (List (Str × Int) × Int)}, (∀ p ∈ L, (∀ n ∈ p.1, 1 ≤ n.2) ∧ 0 ≤ p.2) → 0 ≤ (L.map fun p => sumTo z (goneN p.1 p.2)).sum ∧ (L.map fun p => sumTo z (goneN p.1 p.2)).sum ≤ (L.map fun p => wholeN p.1).sum
  | [], _ => ⟨Int.le_refl _, Int.le_refl _⟩
  | p :: r, h => by
    obtain ⟨h1, h2⟩ := h p List.mem_cons_self
    obtain ⟨a, b⟩ := sumTo_le z h1 h2
    obtain ⟨i1, i2⟩ := sums_le z (L := r) fun q hq => h q (List.mem_cons_of_mem _ hq)
    simp only [List.map_cons, List.sum_cons]
    omega
theorem wholes_le {zs : List Str} : ∀ {L : List (List (Str × Int) × Int)}, (∀ p ∈ L, ∀ n ∈ p.1, NoteOk zs n) → (L.map fun p => wholeN p.1).sum ≤ (((L.map fun p => p.1.length).sum : Nat) : Int) * 10 ^ 58
  | [], _ => by simp
  | p :: r, h => by
    have h1 := wholeN_le (h p List.mem_cons_self)
    have ih := wholes_le (L := r) fun q hq => h q (List.mem_cons_of_mem _ hq)
    simp only [List.map_cons, List.sum_cons]
    rw [Int.natCast_add, Int.add_mul]
    omega
theorem Gs.fallTo {zs : List Str} {D : Md} (g : Gs zs D) (z : Str) : fallTo (bkOf zs D) z ≤ 60 * 10 ^ 58 := by
  have h1 := (sums_le z (L := D.notes.zip D.fallen) fun p hp => by
    obtain ⟨a, b⟩ := List.of_mem_zip hp
    exact ⟨fun n hn => (g.nt _ a n hn).2.1, g.fl _ b⟩).2
  have h2 := wholes_le (zs := zs) (L := D.notes.zip D.fallen) fun p hp => g.nt _ (List.of_mem_zip hp).1
  have h3 : ((D.notes.zip D.fallen).map fun p => p.1.length) = D.notes.map List.length := by
    rw [show (fun p : List (Str × Int) × Int => p.1.length) = List.length ∘ Prod.fst from rfl, ← List.map_map, List.map_fst_zip (by rw [g.ln, g.lf]; exact Nat.le_refl _)]
  rw [h3] at h2
  have h4 := g.my
  have h5 : ((D.notes.map List.length).sum : Int) * 10 ^ 58 ≤ 60 * 10 ^ 58 := Int.mul_le_mul_of_nonneg_right (by omega) (by decide)
  show ((D.notes.zip D.fallen).map fun p => sumTo z (goneN p.1 p.2)).sum ≤ _
  omega
theorem big_of {i : Int} (h0 : 0 ≤ i) (h1 : i ≤ 1000 * 10 ^ 58) : BigOk i := by
  have e : (1000 : Int) * 10 ^ 58 < 2 ^ 300 := by decide
  have e2 : ((2 ^ 300 : Nat) : Int) = 2 ^ 300 := by decide
  unfold BigOk
  omega
theorem Gb.bigs {zs : List Str} {D : Md} (b : Gb D) (g : Gs zs D) {j : Nat} {z : Str} {gv f : Int} {l : List (Str × Int)} (ej : zs[j]? = some z) (eg : D.given[j]? = some gv) (ef : D.fallen[j]? = some f) (el : D.notes[j]? = some l) :
    BigOk gv ∧ BigOk f ∧ BigOk (cashM (bkOf zs D) j z) := by
  obtain ⟨g0, g1⟩ := b.gv gv (List.mem_of_getElem? eg)
  have f0 := g.fl f (List.mem_of_getElem? ef)
  have f1 := b.fw j l f el ef
  have w1 := wholeN_le (g.nt l (List.mem_of_getElem? el))
  have ll := g.rows l (List.mem_of_getElem? el)
  have w2 : (l.length : Int) * 10 ^ 58 ≤ 60 * 10 ^ 58 := Int.mul_le_mul_of_nonneg_right (by omega) (by decide)
  have c0 := g.cs j z ej
  have c1 := g.fallTo z
  have ec : cashM (bkOf zs D) j z = gv + fallTo (bkOf zs D) z - f := by
    unfold cashM
    show D.given.getD j 0 + _ - D.fallen.getD j 0 = _
    rw [getD_of eg, getD_of ef]
  refine ⟨big_of g0 (by omega), big_of f0 (by omega), big_of c0 (by rw [ec]; omega)⟩
theorem Gd.gb {zs : List Str} {D : Md} {k : Nat} (h : Gd zs D k) : Gb D := by
  refine ⟨fun g hg => ?_, fun j l f el ef => ?_⟩
  · obtain ⟨a, b⟩ := h.gv g hg
    have k1 := h.k1
    have : (k : Int) * 10 ^ 58 ≤ 60 * 10 ^ 58 := Int.mul_le_mul_of_nonneg_right (by omega) (by decide)
    exact ⟨a, by omega⟩
  · have hf := List.mem_of_getElem? ef
    rw [h.zf] at hf
    rw [List.eq_of_mem_replicate hf]
    exact wholeN_nonneg fun n hn => (h.nt l (List.mem_of_getElem? el) n hn).2.1
theorem Gb.fell {D : Md} {j : Nat} {l : List (Str × Int)} {x : Int} (b : Gb D) (el : D.notes[j]? = some l) (hx : x ≤ wholeN l) : Gb (fellD D j x) := by
  refine ⟨b.gv, fun i l' f' el' ef' => ?_⟩
  have ef2 : (D.fallen.set j x)[i]? = some f' := ef'
  by_cases h : i = j
  · subst h
    have e : l' = l := Option.some.inj (Eq.trans (Eq.symm (show D.notes[i]? = some l' from el')) el)
    obtain ⟨hl, e2⟩ := List.getElem?_eq_some_iff.mp ef2
    rw [List.getElem_set_self] at e2
    rw [e, ← e2]
    exact hx
  · rw [List.getElem?_set_ne (fun c => h c.symm)] at ef2
    exact b.fw i l' f' el' ef2
theorem Gs.key {zs : List Str} {D : Md} (g : Gs zs D) : KeyOk (bkOf zs D) := by
  have ln : ∀ n : Str × Int, (noteD n).depth = 1 := fun n => by simp [noteD, PyData.depth, PyData.depthAll]
  have ls : ∀ l, (stackD l).depth ≤ 2 := fun l => by
    unfold stackD notesD
    simp only [PyData.depth]
    have := dep_map (f := noteD) (n := 1) (l := l) fun n _ => Nat.le_of_eq (ln n)
    omega
  have c1 : PyData.canLayAll0 (zs.map .str) = true := (nice_names g.nz.nm).cl
  have c2 : ∀ l : List Int, PyData.canLayAll0 (l.map .int) = true := fun l => lay_map fun x _ => by simp only [PyData.canLay0]
  have c3 : PyData.canLayAll0 (D.notes.map stackD) = true := lay_map fun l hl => by
    unfold stackD
    simp only [PyData.canLay0]
    exact (nice_notes g.nz.nm (g.nt l hl)).cl
  unfold KeyOk SeqAt.shaped
  have ec : (keyD (bkOf zs D)).canLay0 = true := by
    show (PyData.tuple [.tuple (zs.map .str), .tuple (D.given.map .int), .tuple (D.notes.map stackD), .tuple (D.fallen.map .int)]).canLay0 = true
    simp only [PyData.canLay0, PyData.canLayAll0, c1, c2, c3, Bool.and_self]
  have ed : (keyD (bkOf zs D)).depth ≤ 64 := by
    show (PyData.tuple [.tuple (zs.map .str), .tuple (D.given.map .int), .tuple (D.notes.map stackD), .tuple (D.fallen.map .int)]).depth ≤ 64
    simp only [PyData.depth, PyData.depthAll]
    have d1 := dep_map (f := PyData.str) (n := 0) (l := zs) fun _ _ => by simp only [PyData.depth]; omega
    have d2 := dep_map (f := PyData.int) (n := 0) (l := D.given) fun _ _ => by simp only [PyData.depth]; omega
    have d3 := dep_map (f := stackD) (n := 2) (l := D.notes) fun l _ => ls l
    have d4 := dep_map (f := PyData.int) (n := 0) (l := D.fallen) fun _ _ => by simp only [PyData.depth]; omega
    omega
  rw [ec, decide_eq_true ed]
  rfl
theorem key_eqv {M : Bk} (h : KeyOk M) : PyData.eqv (keyD M) (keyD M) = true := SeqAt.eqv_refl _ (SeqAt.canLay_of_shaped h)
theorem fold_eq (zs : List Str) : ∀ (ds : List Deed) (D : Md), ds.foldl stepM (bkOf zs D) = bkOf zs (ds.foldl (doneD zs) D)
  | [], _ => rfl
  | d :: r, D => by
    rw [List.foldl_cons, List.foldl_cons, step_eq, fold_eq zs r]
/-! ### rings hang together -/
def Chain (nx : Str → Option Str) (T : List Str) : Prop := ∀ (i : Nat) (x y : Str), T[i]? = some x → T[i + 1]? = some y → nx x = some y
theorem chain_snoc {nx : Str → Option Str} {ini : List Str} {l y : Str} (c : Chain nx (ini ++ [l])) (h : nx l = some y) : Chain nx (ini ++ [l] ++ [y]) := fun i a b h1 h2 => by
  have lb : i + 1 < (ini ++ [l] ++ [y]).length := (List.getElem?_eq_some_iff.mp h2).1
  rw [List.length_append] at lb
  have l1 : [y].length = 1 := rfl
  rw [List.getElem?_append_left (by omega)] at h1
  by_cases hi : i + 1 < (ini ++ [l]).length
  · rw [List.getElem?_append_left hi] at h2
    exact c i a b h1 h2
  · have ei : i = ini.length := by
      rw [List.length_append] at hi lb
      have l2 : [l].length = 1 := rfl
      omega
    subst ei
    rw [List.getElem?_append_right (by rw [List.length_append]; exact Nat.le_refl _)] at h2
    rw [List.getElem?_append_right (Nat.le_refl _)] at h1
    simp at h1 h2
    rw [← h1, ← h2]
    exact h
theorem trail_chain {nx : Str → Option Str} : ∀ (k : Nat) (ini : List Str) (l : Str) (d : Option Str), Chain nx (ini ++ [l]) → d = nx l → Chain nx (trailF nx k (ini ++ [l]) d)
  | 0, _, _, _, c, _ => c
  | k + 1, ini, l, none, c, _ => c
  | k + 1, ini, l, some y, c, e => by
    simp only [trailF]
    split
    · exact c
    · exact trail_chain k (ini ++ [l]) y (nx y) (chain_snoc c e.symm) rfl
theorem trailM_chain (zs : List Str) (nx : Str → Option Str) (z : Str) : Chain nx (trailM zs nx z) :=
  trail_chain zs.length [] z (nx z) (fun i x y _ h => by simp at h) rfl
/-- each person of a ring has a due note -/
theorem ring_due {zs : List Str} {nx : Str → Option Str} {z : Str} {r : List Str} (ld : Leads zs nx) (hz : z ∈ zs) (h : ringM zs nx z = some r) : ∀ y ∈ r, y ∈ zs ∧ ∃ x, nx y = some x := fun y hy => by
  have en := trail_ended ld hz
  have ch := trailM_chain zs nx z
  unfold ringM at h
  split at h
  · rename_i hl
    have e := Option.some.inj h
    subst e
    have hyT : y ∈ trailM zs nx z := by
      rcases List.mem_append.mp hy with hy | hy
      · exact List.mem_of_mem_drop hy
      · exact List.mem_of_mem_take hy
    refine ⟨en.sub y hyT, ?_⟩
    obtain ⟨i, hi, e⟩ := List.getElem_of_mem hyT
    by_cases hl' : i + 1 < (trailM zs nx z).length
    · exact ⟨_, ch i y _ (by rw [List.getElem?_eq_getElem hi, e]) (List.getElem?_eq_getElem hl')⟩
    · obtain ⟨ini, l, eT, _⟩ := en.last
      have el : y = l := by
        have h1 : (trailM zs nx z)[i]? = some y := by rw [List.getElem?_eq_getElem hi, e]
        rw [eT] at h1 hi hl'
        rw [List.length_append] at hi hl'
        have l1 : [l].length = 1 := rfl
        rw [List.getElem?_append_right (by omega)] at h1
        have : i - ini.length = 0 := by omega
        rw [this] at h1
        simpa using h1.symm
      rw [lastM_eq eT] at hl
      exact ⟨z, el ▸ hl⟩
  · cases h
end Rc

namespace Rc
open PySem PySem.Spec PyProof.Rows L2 RZ
section
variable {P : Program} {w : World} {K : PySem.W.Frag} {mg : Str → Option Value} {base : Heap}
/-! ### _law_cash -/
abbrev sLCs : Stmt := topS 41
abbrev nLCs : List Str := ["_law_model_here", "_law_who", "_law_found", "_law_name_here", "_law_to", "_law_amount_here"]
theorem scLCs : FnScope nLCs ["_law_model_here", "_law_who"] (defScope sLCs) := ⟨rfl, rfl, rfl, by decide +kernel, rfl, by decide +kernel, by decide +kernel⟩
def spLCs (K : PySem.W.Frag) : Sp := fun vs H Q _ => ∃ (a : MdA) (D : Md) (zs : List Str) (z : Str) (j : Nat), vs = [.ref a.m, .str z] ∧ ModelAt K H zs a D ∧ zs[j]? = some z ∧ RowsOk D ∧ ∀ H', Same H H' → Q (.int (cashD D j z)) H'
theorem ok_lcs {f fp : Addr} {fd fdp : FuncData} (F : Fun K "_law_cash" "_law_cash" sLCs f fd) (B3 : Blt3 mg) (PT : Has P w K mg base 1 "_law_parted" ["_law_model_here", "_law_who"] (spLPt K) fp fdp) : FnOk P w K mg base CX0 2 f fd ["_law_model_here", "_law_who"] (spLCs K) := by
  refine F.ok scLCs (fun vs H Q E h => ?_) (fun cdv Ar outer s H vs Q E hr h => ?_)
  · obtain ⟨_, _, _, _, _, rfl, _⟩ := h
    rfl
  · obtain ⟨a, D, zs, z, j, rfl, hM, ej, ro, q⟩ := h
    have hu := hu_of hr
    refine ⟨_, pss_cons (ps_set (i := 2) scLCs.nd rfl (.inl rfl) (pe_op op_sub (pe_dget hu (pe_dget hu (pv 0) pe_str (fun _ _ => rfl)) (pv 1) (fun _ _ => rfl)) (pe_dget hu (pe_dget hu (pv 0) pe_str (fun _ _ => rfl)) (pv 1) (fun _ _ => rfl))))
      (pss_cons (ps_for PassesOwn.never rfl (pi_list (pe_dget hu (pv 0) pe_str (fun _ _ => rfl))) (pg_name (i := 3) scLCs.nd rfl (.inl rfl))
        (pss_one (ps_set (i := 2) scLCs.nd rfl (.inl rfl) (pe_op op_add (pv 2) (pe_callB (cr_sum rfl) (by rfl) B3.sum (by decide +kernel) (pa_cons
          (pe_lc (own := [("_law_to", 4), ("_law_amount_here", 5)]) (g := gTup K 2 (gCons (gName 4) (gCons (gName 5) gNil))) rfl scLCs.nd
            (pi_list (pe_ix ix_tup (pe_call PT.ok hr (by rfl) PT.g PT.kp PT.b .nil pass0 (pa_cons (pv 0) (pa_cons (pv 3) pa_nil))) pe_int (fun _ _ => rfl)))
            (blkOk_by (N := nLCs) (sc := defScope sLCs) (own := [("_law_to", 4), ("_law_amount_here", 5)]) (by decide +kernel))
            (fun _ _ _ _ _ => pg_tup rfl (pgs_cons (pg_name (i := 4) scLCs.nd rfl (.inl rfl) (hf := .inr rfl)) (pgs_cons (pg_name (i := 5) scLCs.nd rfl (.inl rfl) (hf := .inr rfl)) pgs_nil)))
            (fun _ _ _ _ _ => pts_one (pt_cmpR op_eq (pv 4) (pv 1) (nomark _))) (fun _ _ _ _ _ => pv 5)) pa_nil))))))
      (pss_one (ps_ret (pv 2)))), ?_⟩
    obtain ⟨gv, f', l', r, xs, eg, ef, el', er, hr0, hd0⟩ := hM.at_ ej
    refine ⟨.ref a.m, rfl, a.m, .ref a.dg, rfl, hM.g1, .str z, rfl, a.dg, .int gv, rfl, hM.gg ej eg, .ref a.m, rfl, a.m, .ref a.df, rfl, hM.g2, .str z, rfl, a.df, .int f', rfl, hM.gf ej ef, _, _, rfl, rfl, ?_⟩
    refine ⟨.ref a.m, rfl, a.m, .ref a.lo, rfl, hM.g0, a.lo, rfl, ⟨_, .inl (.inl hM.ho)⟩, ?_⟩
    refine for_it (walk_list (K := K) (a := a.lo) (xs := zs.map V.str)) (fun i σ H' => ∃ y3 y4 y5, σ = [some (.ref a.m), some (.str z), some (.int (gv - f' + (((D.notes.zip D.fallen).take i).map fun p => sumTo z (goneN p.1 p.2)).sum)), y3, y4, y5] ∧ Same H H')
      ⟨_, _, _, by simp; rfl, Same.refl _⟩ (fun i σ H' _ hP => ?_) (fun i x σ H2' H2 hi hP hY => ?_) (fun σ H' hP => ?_)
    · obtain ⟨_, _, _, _, s1⟩ := hP
      exact .inl (.inl (s1 _ _ hM.ho))
    · obtain ⟨rfl, hx⟩ := hY
      obtain ⟨y3, y4, y5, rfl, s2⟩ := hP
      rw [List.length_map] at hi
      have exx : x = .str zs[i] := by
        rw [List.getElem?_map, List.getElem?_eq_getElem hi] at hx
        exact (Option.some.inj hx).symm
      subst exx
      have hs : i < D.notes.length := by rw [hM.ln]; exact hi
      have hdr : i < D.fallen.length := by rw [hM.lf]; exact hi
      have ll := ro _ (List.getElem_mem hs)
      refine ⟨_, rfl, .ref a.m, rfl, .str zs[i], rfl, a, D, zs, _, i, _, _, rfl, model_same hM s2, List.getElem?_eq_getElem hi, List.getElem?_eq_getElem hs, List.getElem?_eq_getElem hdr, by omega, fun t g m gx mx H4 s4 ht ng nm hg hm dg dm => ?_⟩
      refine ⟨t, _, 0, .ref g, rfl, rfl, .inl (.inl ht), rfl, g, rfl, ⟨_, .inl (.inl hg)⟩, fun D' nD => ?_⟩
      generalize hG : goneN D.notes[i] D.fallen[i] = G at dg
      have lg : gx.length = G.length := by
        rw [dg.len]
        unfold notesD
        rw [List.length_map]
      have lG : G.length ≤ 60 := by
        rw [← hG]
        exact Nat.le_trans (goneN_len _ _) ll
      refine lc_it (walk_list (K := K) (a := g) (xs := gx)) (fun i' H' => Same H4 H' ∧ H' D' = some (.lst (((G.take i').filter fun n => decide (n.1 = z)).map fun n => .int n.2))) ⟨same_upd nD, upd_same⟩ (fun i' H' _ hP => hP.1.seq (.inl (.inl hg)))
        (fun i' x' H5' H5 hi' hP hY => ?_) (fun H5 hP => ?_)
      · obtain ⟨rfl, hx'⟩ := hY
        obtain ⟨hil, dn⟩ := (DtAll.same hP.1 _ dg).notes_get hx'
        obtain ⟨na, rfl, qn⟩ := note_inv dn
        refine ⟨na, _, rfl, qn, rfl, _, _, rfl, _, _, rfl, rfl, rfl, _, rfl, _, rfl, rfl, _, rfl, ?_⟩
        have tk := take_succ hil
        by_cases hz : G[i'].1 = z
        · rw [show decide (V.str G[i'].1 = V.str z) = true from decide_eq_true (by rw [hz])]
          refine iteT ⟨_, rfl, _, hP.2, ?_, fun c o ec => ?_, ?_⟩
          · rw [List.length_map]
            have := List.length_filter_le (fun n : Str × Int => decide (n.1 = z)) (G.take i')
            rw [List.length_take] at this
            exact small1000 (by omega)
          · rw [upd_ne (ne_of_none ec nD)]
            exact hP.1 c o ec
          · rw [upd_same, tk, List.filter_append, List.map_append]
            simp [hz]
        · rw [show decide (V.str G[i'].1 = V.str z) = false from decide_eq_false (fun c => hz (V.str.inj c))]
          refine iteF ⟨hP.1, ?_⟩
          rw [hP.2, tk, List.filter_append]
          simp [hz]
      · refine ⟨D', (G.filter fun n => decide (n.1 = z)).map (·.2), rfl, .inl (.inl ?_), _, _, rfl, rfl, ?_⟩
        · rw [hP.2, lg, List.take_length, List.map_map]
          rfl
        refine ⟨some (.str zs[i]), y4, y5, ?_, s2.trans (s4.trans hP.1)⟩
        have tk : (D.notes.zip D.fallen).take (i + 1) = (D.notes.zip D.fallen).take i ++ [(D.notes[i], D.fallen[i])] := by
          rw [List.take_add_one, List.getElem?_zip_eq_some (z := (D.notes[i], D.fallen[i])) |>.mpr ⟨List.getElem?_eq_getElem hs, List.getElem?_eq_getElem hdr⟩]
          rfl
        rw [tk, List.map_append, List.sum_append]
        simp only [List.map_cons, List.map_nil, List.sum_cons, List.sum_nil, Int.add_zero]
        rw [hG, ← Int.add_assoc]
        rfl
    · obtain ⟨y3, y4, y5, rfl, s2⟩ := hP
      refine ⟨_, rfl, ?_⟩
      rw [List.take_of_length_le (by rw [List.length_zip, hM.ln, hM.lf, Nat.min_self, List.length_map]; exact Nat.le_refl _)]
      have ec : cashD D j z = gv - f' + ((D.notes.zip D.fallen).map fun p => sumTo z (goneN p.1 p.2)).sum := by
        unfold cashD sumsD
        rw [getD_of eg, getD_of ef]
      rw [← ec]
      exact q _ s2
end
end Rc

namespace Rc
open PySem PySem.Spec PyProof.Rows L2 RZ
def mostW (zs : List Str) (D : Md) (wd z : Str) : Int := if wd = "pay" then mostP (bkOf zs D) (zs.idxOf z) z else mostC zs (duesM (bkOf zs D)) z
theorem pay_ne_clear : ¬ (V.str ("clear" : Str)) = V.str ("pay" : Str) := fun e => absurd (V.str.inj e) (by decide +kernel)
theorem clear_ne : ¬ ("clear" : Str) = "pay" := by decide +kernel
def stepW (p : Str × Str) : PyData := .tuple [.str p.1, .str p.2]
theorem tup_stepW (p : Str × Str) : tupD (stepW p) = true := by simp [stepW, tupD, tupDs]
def kindsW : List Str := ["pay", "clear"]
def stepsAt (zs : List Str) (D : Md) (z : Str) : List (Str × Str) := (kindsW.filter fun k => decide (0 < mostW zs D k z)).map fun k => (k, z)
def stepsW (zs : List Str) (D : Md) : List (Str × Str) := zs.flatMap (stepsAt zs D)
def fallAll (zs : List Str) (D : Md) (r : List Str) (m : Int) : Md := r.foldl (fun D y => fellD D (zs.idxOf y) (D.fallen.getD (zs.idxOf y) 0 + m)) D
theorem steps_len (zs : List Str) (D : Md) (z : Str) : (stepsAt zs D z).length ≤ 2 := by
  unfold stepsAt
  rw [List.length_map]
  exact List.length_filter_le _ _
end Rc

namespace Rc
open PySem PySem.Spec PyProof.Rows L2 RZ
/-! ### a ring goes round -/
theorem chain_tail {nx : Str → Option Str} {x : Str} {r : List Str} (c : Chain nx (x :: r)) : Chain nx r := fun i a b h1 h2 => c (i + 1) a b (by simpa using h1) (by simpa using h2)
theorem chain_map {nx : Str → Option Str} : ∀ (r : List Str) (x : Str), Chain nx (x :: r) → (x :: r).map nx = r.map some ++ [nx (r.getLastD x)]
  | [], x, _ => rfl
  | y :: r, x, c => by
    have ih := chain_map r y (chain_tail c)
    have e : nx x = some y := c 0 x y rfl rfl
    rw [List.map_cons, ih, e, List.map_cons]
    show some y :: (r.map some ++ [nx (r.getLastD y)]) = some y :: (r.map some) ++ [nx ((y :: r).getLastD x)]
    have : (y :: r).getLastD x = r.getLastD y := by cases r <;> simp [List.getLastD]
    rw [this]
    rfl
theorem ring_perm {zs : List Str} {nx : Str → Option Str} {z : Str} {r : List Str} (ld : Leads zs nx) (hz : z ∈ zs) (h : ringM zs nx z = some r) : (r.map nx).Perm (r.map some) ∧ r.Nodup ∧ (∀ y ∈ r, y ∈ zs) ∧ r ≠ [] := by
  have en := trail_ended ld hz
  have ch := trailM_chain zs nx z
  unfold ringM at h
  split at h
  · rename_i hl
    have e := Option.some.inj h
    subst e
    generalize hi : (trailM zs nx z).idxOf (firstM zs (trailM zs nx z)) = i
    obtain ⟨tl, eT⟩ := en.first
    have eL : tl.getLastD z = lastM zs nx z := by
      unfold lastM
      rw [eT]
      cases tl with
      | nil => rfl
      | cons a b => simp
    have p1 : ((trailM zs nx z).drop i ++ (trailM zs nx z).take i).Perm (trailM zs nx z) := by
      have := List.perm_append_comm (l₁ := (trailM zs nx z).drop i) (l₂ := (trailM zs nx z).take i)
      rw [List.take_append_drop] at this
      exact this
    have p2 : ((trailM zs nx z).map nx).Perm ((trailM zs nx z).map some) := by
      rw [eT] at ch ⊢
      rw [chain_map tl z ch, eL, hl, List.map_cons]
      exact List.perm_append_comm
    refine ⟨(p1.map nx).trans (p2.trans (p1.map some).symm), p1.symm.nodup en.nd, fun y hy => en.sub y (p1.mem_iff.mp hy), fun c => ?_⟩
    have := p1.length_eq
    rw [c, eT] at this
    simp at this
  · cases h
theorem ring_count {nx : Str → Option Str} {r : List Str} (p : (r.map nx).Perm (r.map some)) (nd : r.Nodup) (y : Str) : (r.filter fun x => decide (nx x = some y)).length = if y ∈ r then 1 else 0 := by
  have h1 := p.count_eq (some y)
  have h2 : (r.map nx).count (some y) = (r.filter fun x => decide (nx x = some y)).length := by
    rw [List.count, List.countP_map, List.countP_eq_length_filter]
    refine congrArg List.length (List.filter_congr fun x _ => ?_)
    show (nx x == some y) = decide (nx x = some y)
    by_cases h : nx x = some y
    · rw [h]
      simp
    · rw [decide_eq_false h]
      exact beq_false_of_ne h
  have h3 : (r.map some).count (some y) = r.count y := by
    rw [List.count, List.countP_map, List.count]
    congr 1
  rw [← h2, h1, h3]
  exact nd.count
/-! ### falling of several -/
theorem fell_cash {zs : List Str} {D : Md} {j : Nat} {t : Str} {l r : List (Str × Int)} {f m b : Int} (hn : ∀ n ∈ l, 1 ≤ n.2) (f0 : 0 ≤ f) (el : D.notes[j]? = some l) (ef : D.fallen[j]? = some f) (e : leftN l f = (t, b) :: r) (m0 : 0 ≤ m) (mb : m ≤ b)
    (i : Nat) (y : Str) : cashM (bkOf zs (fellD D j (f + m))) i y = cashM (bkOf zs D) i y + (if t = y then m else 0) - (if i = j then m else 0) := by
  obtain ⟨_, h2⟩ := fall_one hn f0 m0 mb e
  have e1 : fallTo (bkOf zs (fellD D j (f + m))) y = fallTo (bkOf zs D) y + (if t = y then m else 0) := by
    show ((D.notes.zip (D.fallen.set j (f + m))).map fun p => sumTo y (goneN p.1 p.2)).sum = ((D.notes.zip D.fallen).map fun p => sumTo y (goneN p.1 p.2)).sum + _
    rw [sum_zip_set (α := Nat) (fun p => sumTo y (goneN p.1 p.2)) D.notes D.fallen j l f (f + m) el ef]
    show _ + (sumTo y (goneN l (f + m)) - sumTo y (goneN l f)) = _
    rw [h2 y]
    omega
  have e2 : (bkOf zs (fellD D j (f + m))).drops.getD i 0 = (bkOf zs D).drops.getD i 0 + (if i = j then m else 0) := by
    show (D.fallen.set j (f + m)).getD i 0 = D.fallen.getD i 0 + _
    by_cases h : i = j
    · subst h
      rw [if_pos rfl, getD_of ef]
      have hj : i < D.fallen.length := (List.getElem?_eq_some_iff.mp ef).1
      rw [getD_of (List.getElem?_set_self hj)]
    · rw [if_neg h, List.getD_eq_getElem?_getD, List.getElem?_set_ne (fun c => h c.symm), List.getD_eq_getElem?_getD]
      omega
  unfold cashM
  rw [e1, e2]
  show (bkOf zs D).gifts.getD i 0 + _ - _ = _
  omega
theorem fallAll_cons (zs : List Str) (D : Md) (x : Str) (r : List Str) (m : Int) : fallAll zs D (x :: r) m = fallAll zs (fellD D (zs.idxOf x) (D.fallen.getD (zs.idxOf x) 0 + m)) r m := rfl
theorem fallAll_keeps (zs : List Str) (m : Int) : ∀ (r : List Str) (D : Md), (fallAll zs D r m).given = D.given ∧ (fallAll zs D r m).notes = D.notes ∧ (fallAll zs D r m).fallen.length = D.fallen.length
  | [], _ => ⟨rfl, rfl, rfl⟩
  | x :: r, D => by
    rw [fallAll_cons]
    obtain ⟨a, b, c⟩ := fallAll_keeps zs m r (fellD D (zs.idxOf x) (D.fallen.getD (zs.idxOf x) 0 + m))
    refine ⟨a, b, c.trans ?_⟩
    show (D.fallen.set _ _).length = _
    rw [List.length_set]
theorem fallAll_at {zs : List Str} (nd : zs.Nodup) (m : Int) : ∀ (r : List Str) (D : Md), r.Nodup → (∀ y ∈ r, y ∈ zs) → D.fallen.length = zs.length → ∀ (i : Nat) (y : Str) (f : Int), zs[i]? = some y → D.fallen[i]? = some f →
    (fallAll zs D r m).fallen[i]? = some (f + if y ∈ r then m else 0)
  | [], D, _, _, _, i, y, f, _, ef => by
    show D.fallen[i]? = _
    rw [ef]
    simp
  | x :: r, D, nr, sub, lf, i, y, f, ei, ef => by
    obtain ⟨n1, n2⟩ := List.nodup_cons.mp nr
    rw [fallAll_cons]
    have hx := sub x List.mem_cons_self
    have ex := idx_get hx
    have hxl : zs.idxOf x < D.fallen.length := by
      rw [lf]
      exact List.idxOf_lt_length_of_mem hx
    have ih := fallAll_at nd m r (fellD D (zs.idxOf x) (D.fallen.getD (zs.idxOf x) 0 + m)) n2 (fun y hy => sub y (List.mem_cons_of_mem _ hy)) (by show (D.fallen.set _ _).length = _; rw [List.length_set]; exact lf) i y
    by_cases h : i = zs.idxOf x
    · subst h
      have exy : x = y := Option.some.inj (ex.symm.trans ei)
      subst exy
      have e2 : (fellD D (zs.idxOf x) (D.fallen.getD (zs.idxOf x) 0 + m)).fallen[zs.idxOf x]? = some (f + m) := by
        show (D.fallen.set _ _)[_]? = _
        rw [List.getElem?_set_self hxl, getD_of ef]
      rw [ih _ ei e2, if_neg n1, if_pos List.mem_cons_self]
      congr 1
      omega
    · have hne : ¬ y = x := fun c => h (by
        rw [← c]
        obtain ⟨hi, e⟩ := List.getElem?_eq_some_iff.mp ei
        rw [← e]
        exact (nd.idxOf_getElem i hi).symm)
      have e2 : (fellD D (zs.idxOf x) (D.fallen.getD (zs.idxOf x) 0 + m)).fallen[i]? = some f := by
        show (D.fallen.set _ _)[_]? = _
        rw [List.getElem?_set_ne (fun c => h c.symm)]
        exact ef
      rw [ih _ ei e2]
      congr 1
      have : (y ∈ x :: r) ↔ y ∈ r := by
        rw [List.mem_cons]
        exact ⟨fun c => c.resolve_left hne, .inr⟩
      simp only [this]
/-- each of some persons has a due note of at least so much -/
def DuesOf (zs : List Str) (D : Md) (nx : Str → Option Str) (m : Int) (r : List Str) : Prop := ∀ x ∈ r, ∃ l f t b rest, D.notes[zs.idxOf x]? = some l ∧ D.fallen[zs.idxOf x]? = some f ∧ (∀ n ∈ l, 1 ≤ n.2) ∧ 0 ≤ f ∧ leftN l f = (t, b) :: rest ∧ m ≤ b ∧ nx x = some t
theorem fallAll_cash {zs : List Str} (nd : zs.Nodup) {nx : Str → Option Str} {m : Int} (m0 : 0 ≤ m) : ∀ (r : List Str) (D : Md), r.Nodup → (∀ y ∈ r, y ∈ zs) → DuesOf zs D nx m r → ∀ (i : Nat) (y : Str), zs[i]? = some y →
    cashM (bkOf zs (fallAll zs D r m)) i y = cashM (bkOf zs D) i y + m * ((r.filter fun x => decide (nx x = some y)).length : Int) - (if y ∈ r then m else 0)
  | [], D, _, _, _, i, y, _ => by
    show cashM (bkOf zs D) i y = _
    simp
  | x :: r, D, nr, sub, du, i, y, ei => by
    obtain ⟨n1, n2⟩ := List.nodup_cons.mp nr
    rw [fallAll_cons]
    obtain ⟨l, f, t, b, rest, el, ef, hn, f0, eL, mb, ex⟩ := du x List.mem_cons_self
    rw [getD_of ef]
    have du2 : DuesOf zs (fellD D (zs.idxOf x) (f + m)) nx m r := fun x' hx' => by
      obtain ⟨l2, f2, t2, b2, rest2, el2, ef2, hn2, f02, eL2, mb2, ex2⟩ := du x' (List.mem_cons_of_mem _ hx')
      have hne : zs.idxOf x ≠ zs.idxOf x' := fun c => by
        have e1 := idx_get (sub x List.mem_cons_self)
        have e2 := idx_get (sub x' (List.mem_cons_of_mem _ hx'))
        rw [c, e2] at e1
        exact n1 (Option.some.inj e1 ▸ hx')
      refine ⟨l2, f2, t2, b2, rest2, el2, ?_, hn2, f02, eL2, mb2, ex2⟩
      show (D.fallen.set _ _)[_]? = _
      rw [List.getElem?_set_ne hne]
      exact ef2
    rw [fallAll_cash nd m0 r _ n2 (fun y hy => sub y (List.mem_cons_of_mem _ hy)) du2 i y ei, fell_cash hn f0 el ef eL m0 mb i y]
    have hix : (i = zs.idxOf x) ↔ y = x := by
      obtain ⟨hi, e⟩ := List.getElem?_eq_some_iff.mp ei
      refine ⟨fun c => ?_, fun c => ?_⟩
      · have := idx_get (sub x List.mem_cons_self)
        rw [← c, ei] at this
        exact Option.some.inj this
      · rw [← c, ← e]
        exact (nd.idxOf_getElem i hi).symm
    rw [List.filter_cons, ex]
    have c1 : (if t = y then m else 0) + m * ((r.filter fun x => decide (nx x = some y)).length : Int) = m * (((if decide (some t = some y) = true then x :: r.filter fun x => decide (nx x = some y) else r.filter fun x => decide (nx x = some y)).length : Nat) : Int) := by
      by_cases h : t = y
      · rw [if_pos h, if_pos (decide_eq_true (congrArg some h)), List.length_cons, Int.natCast_add, Int.mul_add]
        simp
        omega
      · rw [if_neg h, if_neg (by simp [h])]
        omega
    have c2 : (if i = zs.idxOf x then m else 0) + (if y ∈ r then m else 0) = (if y ∈ x :: r then m else 0) := by
      by_cases h : y = x
      · subst h
        rw [if_pos (hix.mpr rfl), if_neg n1, if_pos List.mem_cons_self]
        omega
      · rw [if_neg (fun c => h (hix.mp c))]
        have : (y ∈ x :: r) ↔ y ∈ r := by
          rw [List.mem_cons]
          exact ⟨fun c => c.resolve_left h, .inr⟩
        simp only [this]
        omega
    omega
theorem moreAt_all (m : Int) (y : Str) : ∀ r : List Str, moreAt (r.map fun x => (x, m)) y = if y ∈ r then m else 0
  | [] => rfl
  | x :: r => by
    have ih := moreAt_all m y r
    unfold moreAt at ih ⊢
    rw [List.map_cons]
    by_cases h : x = y
    · rw [List.find?_cons_of_pos (by simp [h]), if_pos (by rw [h]; exact List.mem_cons_self)]
      rfl
    · rw [List.find?_cons_of_neg (by simp [h]), ih]
      have : (y ∈ x :: r) ↔ y ∈ r := by
        rw [List.mem_cons]
        exact ⟨fun c => c.resolve_left fun e => h e.symm, .inr⟩
      simp only [this]
theorem fallAll_eq {zs : List Str} {D : Md} {r : List Str} {m : Int} (nd : zs.Nodup) (lf : D.fallen.length = zs.length) (nr : r.Nodup) (sub : ∀ y ∈ r, y ∈ zs) : fallM (bkOf zs D) (r.map fun x => (x, m)) = bkOf zs (fallAll zs D r m) := by
  obtain ⟨a, b, c⟩ := fallAll_keeps zs m r D
  have e : ((zs.zip D.fallen).map fun p => p.2 + moreAt (r.map fun x => (x, m)) p.1) = (fallAll zs D r m).fallen := by
    refine List.ext_getElem? fun i => ?_
    rw [List.getElem?_map]
    by_cases hi : i < zs.length
    · have hf : i < D.fallen.length := by omega
      rw [List.getElem?_zip_eq_some (z := (zs[i], D.fallen[i])) |>.mpr ⟨List.getElem?_eq_getElem hi, List.getElem?_eq_getElem hf⟩, fallAll_at nd m r D nr sub lf i zs[i] D.fallen[i] (List.getElem?_eq_getElem hi) (List.getElem?_eq_getElem hf)]
      show some (D.fallen[i] + moreAt (r.map fun x => (x, m)) zs[i]) = _
      rw [moreAt_all]
    · rw [List.getElem?_eq_none (by rw [List.length_zip]; omega), List.getElem?_eq_none (by omega)]
      rfl
  show Bk.mk zs D.given D.notes ((zs.zip D.fallen).map fun p => p.2 + moreAt (r.map fun x => (x, m)) p.1) = Bk.mk zs (fallAll zs D r m).given (fallAll zs D r m).notes (fallAll zs D r m).fallen
  rw [e, a, b]
/-- a ring that is cleared -/
theorem clear_ok {zs : List Str} {D : Md} {z : Str} {m : Int} {r : List Str} (g : Gs zs D) (gb : Gb D) (hz : z ∈ zs) (m1 : 1 ≤ m) (hR : ringM zs (nxD zs D) z = some r) (mm : m ≤ leastI (r.map (amtAt zs (duesM (bkOf zs D))))) :
    Gs zs (fallAll zs D r m) ∧ Gb (fallAll zs D r m) ∧ FallOk (bkOf zs D) (r.map fun x => (x, m)) ∧ r.Nodup ∧ (∀ y ∈ r, y ∈ zs) := by
  have wk := g.walks
  obtain ⟨p, nr, sub, ne⟩ := ring_perm wk.ld hz hR
  have rd := ring_due wk.ld hz hR
  have du : DuesOf zs D (nxD zs D) m r := fun x hx => by
    obtain ⟨hxz, t, ht⟩ := rd x hx
    have hj : zs.idxOf x < zs.length := List.idxOf_lt_length_of_mem hxz
    have h1 : zs.idxOf x < D.notes.length := by rw [g.ln]; exact hj
    have h2 : zs.idxOf x < D.fallen.length := by rw [g.lf]; exact hj
    have el := List.getElem?_eq_getElem h1
    have ef := List.getElem?_eq_getElem h2
    have hnx : nxD zs D x = some t := ht
    rw [nxD_at g.nz.nd (idx_get hxz) el ef] at hnx
    cases hL : leftN D.notes[zs.idxOf x] D.fallen[zs.idxOf x] with
    | nil =>
      rw [hL] at hnx
      cases hnx
    | cons n rest =>
      obtain ⟨t', b⟩ := n
      rw [hL] at hnx
      have e1 : t' = t := Option.some.inj hnx
      subst e1
      have ea : amtAt zs (duesM (bkOf zs D)) x = b := by
        unfold amtAt
        have eo : (duesM (bkOf zs D)).getD (zs.idxOf x) none = (leftN D.notes[zs.idxOf x] D.fallen[zs.idxOf x]).head? := getD_of (dues_at (M := bkOf zs D) el ef)
        rw [eo, hL]
        rfl
      have hb : m ≤ b := by
        have := (least_mem (ns := r.map (amtAt zs (duesM (bkOf zs D)))) (by simpa using ne)).2 _ (List.mem_map.mpr ⟨x, hx, rfl⟩)
        omega
      exact ⟨_, _, t', b, rest, el, ef, fun n hn => (g.nt _ (List.getElem_mem h1) n hn).2.1, g.fl _ (List.getElem_mem h2), hL, hb, ht⟩
  obtain ⟨ka, kb, kc⟩ := fallAll_keeps zs m r D
  have cs : ∀ (i : Nat) (y : Str), zs[i]? = some y → 0 ≤ cashM (bkOf zs (fallAll zs D r m)) i y := fun i y ei => by
    rw [fallAll_cash g.nz.nd (by omega) r D nr sub du i y ei, ring_count p nr y]
    have c0 := g.cs i y ei
    by_cases h : y ∈ r
    · rw [if_pos h, if_pos h]
      simp
      omega
    · rw [if_neg h, if_neg h]
      simp
      omega
  have at_ : ∀ (i : Nat) (f' : Int), (fallAll zs D r m).fallen[i]? = some f' → ∃ y f, zs[i]? = some y ∧ D.fallen[i]? = some f ∧ f' = f + if y ∈ r then m else 0 := fun i f' e => by
    have hi : i < (fallAll zs D r m).fallen.length := (List.getElem?_eq_some_iff.mp e).1
    have hif : i < D.fallen.length := by omega
    have hiz : i < zs.length := by
      rw [← g.lf]
      exact hif
    have := fallAll_at g.nz.nd m r D nr sub g.lf i zs[i] D.fallen[i] (List.getElem?_eq_getElem hiz) (List.getElem?_eq_getElem hif)
    rw [e] at this
    exact ⟨_, _, List.getElem?_eq_getElem hiz, List.getElem?_eq_getElem hif, Option.some.inj this⟩
  have fw : ∀ (i : Nat) (y : Str) (l : List (Str × Int)) (f : Int), zs[i]? = some y → D.notes[i]? = some l → D.fallen[i]? = some f → y ∈ r → f + m ≤ wholeN l := fun i y l f ei el ef hy => by
    obtain ⟨l2, f2, t2, b2, rest2, el2, ef2, hn2, f02, eL2, mb2, _⟩ := du y hy
    have e : zs.idxOf y = i := by
      obtain ⟨hi, e⟩ := List.getElem?_eq_some_iff.mp ei
      rw [← e]
      exact g.nz.nd.idxOf_getElem i hi
    rw [e, el] at el2
    rw [e, ef] at ef2
    have e1 := Option.some.inj el2
    have e2 := Option.some.inj ef2
    subst e1 e2
    exact (fall_one hn2 f02 (by omega) mb2 eL2).1
  refine ⟨⟨g.nz, by rw [kb]; exact g.nt, fun x hx => ?_, by rw [kb]; exact g.my, by rw [ka]; exact g.lg, by rw [kc]; exact g.lf, by rw [kb]; exact g.ln, cs⟩, ⟨by rw [ka]; exact gb.gv, fun i l f' el' ef' => ?_⟩, ⟨fun q hq => ?_, fun i y ei => ?_⟩, nr, sub⟩
  · obtain ⟨i, hi, e⟩ := List.getElem_of_mem hx
    obtain ⟨y, f, _, ef, e2⟩ := at_ i x (by rw [List.getElem?_eq_getElem hi, e])
    have f0 := g.fl f (List.mem_of_getElem? ef)
    rw [e2]
    split <;> omega
  · rw [kb] at el'
    obtain ⟨y, f, ei, ef, e2⟩ := at_ i f' ef'
    rw [e2]
    by_cases hy : y ∈ r
    · rw [if_pos hy]
      exact fw i y l f ei el' ef hy
    · rw [if_neg hy, Int.add_zero]
      exact gb.fw i l f el' ef
  · obtain ⟨x, hx, rfl⟩ := List.mem_map.mp hq
    obtain ⟨l, f, t, b, rest, el, ef, hn, f0, eL, mb, ex⟩ := du x hx
    exact ⟨_, l, f, idx_get (sub x hx), el, ef, by show 0 ≤ m; omega, (fall_one hn f0 (by omega) mb eL).1⟩
  · rw [fallAll_eq g.nz.nd g.lf nr sub]
    exact cs i y ei
end Rc

namespace Rc
open PySem PySem.Spec PyProof.Rows L2 RZ
theorem ring_least {M : Bk} (ok : M.Ok) (cl : Closed M) {z : Str} (hz : z ∈ M.names) {r : List Str} (h : ringM M.names (nxM M) z = some r) : r ≠ [] ∧ r.length ≤ 12 ∧ (∀ y ∈ r, y ∈ M.names ∧ ∃ x, nxM M y = some x) := by
  have wk := walks_of ok cl
  obtain ⟨_, nr, sub, ne⟩ := ring_perm wk.ld hz h
  exact ⟨ne, Nat.le_trans (nodup_le _ _ nr sub) wk.lz, ring_due wk.ld hz h⟩
structure ClearOk (M : Bk) (z : Str) (m : Int) (r : List Str) : Prop where
  ok : M.Ok
  cl : Closed M
  hz : z ∈ M.names
  m1 : 1 ≤ m
  ring : ringM M.names (nxM M) z = some r
  most : m ≤ leastI (r.map (amtAt M.names (duesM M)))
  nd : r.Nodup
  fo : FallOk M (r.map fun x => (x, m))
end Rc

namespace Rc
open PySem PySem.Spec PyProof.Rows L2 RZ
theorem stepW_inv {K : PySem.W.Frag} {H : Hp} {v : V} {n : Str × Str} (h : Dt K H v (stepW n)) : ∃ a, v = .ref a ∧ SqT K H a [.str n.1, .str n.2] := by
  obtain ⟨a, xs, rfl, q, d⟩ := h.tup_inv
  cases d with
  | cons d1 d2 =>
    cases d1
    cases d2 with
    | cons d3 d4 =>
      cases d3
      cases d4
      exact ⟨a, rfl, q⟩
theorem butD_kp {H H' : Hp} {x : Addr} {kvs : List (Key × V)} (b : But x H H') (h : H x = some (.dK kvs)) : Kp H H' := fun c o e f => b c o (fun z => by
  rw [z, h] at e
  cases e
  exact f) e
def kindOf (W : List (Str × Str)) (k : Str) : List Str := (W.filter fun p => decide (p.1 = k)).map (·.2)
theorem kind_mem {zs : List Str} {D : Md} {k z : Str} (h : z ∈ kindOf (stepsW zs D) k) : z ∈ zs ∧ 0 < mostW zs D k z := by
  unfold kindOf at h
  obtain ⟨p, hp, rfl⟩ := List.mem_map.mp h
  obtain ⟨h1, h2⟩ := List.mem_filter.mp hp
  unfold stepsW at h1
  obtain ⟨y, hy, h3⟩ := List.mem_flatMap.mp h1
  unfold stepsAt at h3
  obtain ⟨q, hq, rfl⟩ := List.mem_map.mp h3
  obtain ⟨_, h4⟩ := List.mem_filter.mp hq
  have h2' : q = k := of_decide_eq_true h2
  subst h2'
  exact ⟨hy, of_decide_eq_true h4⟩
theorem mem_kind {zs : List Str} {D : Md} {k z : Str} (hk : k ∈ kindsW) (h : z ∈ zs) (h0 : 0 < mostW zs D k z) : z ∈ kindOf (stepsW zs D) k := by
  unfold kindOf stepsW stepsAt
  exact List.mem_map.mpr ⟨(k, z), List.mem_filter.mpr ⟨List.mem_flatMap.mpr ⟨z, h, List.mem_map.mpr ⟨k, List.mem_filter.mpr ⟨hk, decide_eq_true h0⟩, rfl⟩⟩, decide_eq_true rfl⟩, rfl⟩
theorem steps_le (zs : List Str) (D : Md) : ∀ l : List Str, (l.flatMap (stepsAt zs D)).length ≤ 2 * l.length
  | [] => Nat.le_refl _
  | z :: r => by
    rw [List.flatMap_cons, List.length_append, List.length_cons]
    have := steps_le zs D r
    have := steps_len zs D z
    omega
/-! ### who stands in a round -/
def rd (as : List Str) (i : Nat) : Str := as.getD (i % as.length) Str.empty
def Round (nx : Str → Option Str) (as : List Str) : Prop := ∀ i, nx (rd as i) = some (rd as (i + 1))
theorem rd_at {as : List Str} {i : Nat} (h : i < as.length) : as[i]? = some (rd as i) := by
  unfold rd
  rw [Nat.mod_eq_of_lt h, List.getD_eq_getElem?_getD, List.getElem?_eq_getElem h]
  rfl
theorem rd_mem {as : List Str} (h : 0 < as.length) (i : Nat) : rd as i ∈ as := by
  have hl := Nat.mod_lt i h
  unfold rd
  rw [List.getD_eq_getElem?_getD, List.getElem?_eq_getElem hl]
  exact List.getElem_mem hl
theorem round_at {nx : Str → Option Str} {as T : List Str} (hr : Round nx as) (h0 : T[0]? = some (rd as 0)) (ch : Chain nx T) : ∀ i, i < T.length → T[i]? = some (rd as i)
  | 0, _ => h0
  | i + 1, h => by
    have ih := round_at hr h0 ch i (by omega)
    have e1 := List.getElem?_eq_getElem h
    have := ch i _ _ ih e1
    rw [hr i] at this
    rw [e1, ← Option.some.inj this]
theorem round_ring {zs : List Str} {nx : Str → Option Str} {as : List Str} (ld : Leads zs nx) (nd : as.Nodup) (h0 : 0 < as.length) (hz : rd as 0 ∈ zs) (hr : Round nx as) : ∃ r, ringM zs nx (rd as 0) = some r := by
  have en := trail_ended ld hz
  have ch := trailM_chain zs nx (rd as 0)
  obtain ⟨tl, eT⟩ := en.first
  obtain ⟨ini, y, eT2, ed⟩ := en.last
  have eL := lastM_eq eT2
  have hT := round_at (T := trailM zs nx (rd as 0)) hr (by rw [eT]; rfl) ch
  have nT := en.nd
  have bk := en.back
  have lT : (trailM zs nx (rd as 0)).length = ini.length + 1 := by rw [eT2, List.length_append]; rfl
  have hy : y = rd as ini.length := by
    have := hT ini.length (by omega)
    rw [eT2, List.getElem?_append_right (Nat.le_refl _), Nat.sub_self] at this
    exact Option.some.inj this
  have hle : ini.length + 1 ≤ as.length := Decidable.byContradiction fun c => by
    have h1 := hT as.length (by omega)
    have h2 := hT 0 (by omega)
    have e : rd as as.length = rd as 0 := by
      unfold rd
      rw [Nat.mod_self, Nat.zero_mod]
    rw [e, ← h2] at h1
    have := (List.getElem?_inj (by omega) nT).mp h1
    omega
  have hb : rd as (ini.length + 1) ∈ trailM zs nx (rd as 0) := by
    refine bk _ ?_
    rw [eL, hy]
    exact hr _
  have hfull : ini.length + 1 = as.length := Decidable.byContradiction fun c => by
    obtain ⟨i, hi, e⟩ := List.getElem_of_mem hb
    have h1 := hT i hi
    rw [List.getElem?_eq_getElem hi, e] at h1
    have h2 := rd_at (as := as) (i := ini.length + 1) (by omega)
    have h3 := rd_at (as := as) (i := i) (by omega)
    rw [Option.some.inj h1, ← h3] at h2
    have := (List.getElem?_inj (by omega) nd).mp h2
    omega
  have e0 : nx (lastM zs nx (rd as 0)) = some (rd as 0) := by
    rw [eL, hy, hr, hfull]
    congr 1
    unfold rd
    rw [Nat.mod_self, Nat.zero_mod]
  unfold ringM
  rw [if_pos e0]
  exact ⟨_, rfl⟩
theorem ring_pos {zs : List Str} {D : Md} {z : Str} {r : List Str} (g : Gs zs D) (hz : z ∈ zs) (hR : ringM zs (nxD zs D) z = some r) : 0 < mostW zs D "clear" z ∧ mostW zs D "clear" z ≤ 10 ^ 58 ∧ mostW zs D "clear" z = leastI (r.map (amtAt zs (duesM (bkOf zs D)))) := by
  have wk := g.walks
  obtain ⟨_, _, _, ne⟩ := ring_perm wk.ld hz hR
  have rdu := ring_due wk.ld hz hR
  have em : mostW zs D "clear" z = leastI (r.map (amtAt zs (duesM (bkOf zs D)))) := by
    unfold mostW
    rw [if_neg (fun c => pay_ne_clear (congrArg V.str c.symm).symm)]
    exact mostC_some hR
  have ne2 : r.map (amtAt zs (duesM (bkOf zs D))) ≠ [] := by simpa using ne
  obtain ⟨hm, _⟩ := least_mem ne2
  obtain ⟨x, hx, ex⟩ := List.mem_map.mp hm
  obtain ⟨hxz, t, ht⟩ := rdu x hx
  have ht2 : ((duesM (bkOf zs D)).getD (zs.idxOf x) none).map (·.1) = some t := ht
  have ha : 1 ≤ amtAt zs (duesM (bkOf zs D)) x ∧ amtAt zs (duesM (bkOf zs D)) x ≤ 10 ^ 58 := by
    cases h : (duesM (bkOf zs D)).getD (zs.idxOf x) none with
    | none =>
      rw [h] at ht2
      cases ht2
    | some n =>
      have gn : 1 ≤ n.2 ∧ n.2 ≤ 10 ^ 58 := (g.due (getD_mem h)).2
      have ea : amtAt zs (duesM (bkOf zs D)) x = n.2 := by
        unfold amtAt
        rw [h]
      rw [ea]
      exact gn
  rw [ex] at ha
  rw [em]
  exact ⟨by omega, ha.2, rfl⟩
/-! ### the first notes -/
def noteAt (zs : List Str) (j : Nat) : Deed → Option (Str × Int)
  | .give _ _ => none
  | .put z y n => if zs.idxOf z = j then some (y, n) else none
theorem notes_fold (zs : List Str) (j : Nat) : ∀ (ds : List Deed) (D : Md) (l : List (Str × Int)), D.notes[j]? = some l → (ds.foldl (doneD zs) D).notes[j]? = some (l ++ ds.filterMap (noteAt zs j))
  | [], D, l, h => by
    rw [List.filterMap_nil, List.append_nil]
    exact h
  | d :: r, D, l, h => by
    rw [List.foldl_cons]
    cases d with
    | give z n =>
      rw [notes_fold zs j r _ l (by exact h), List.filterMap_cons]
      rfl
    | put z y n =>
      by_cases hj : zs.idxOf z = j
      · have e : (doneD zs D (.put z y n)).notes[j]? = some (l ++ [(y, n)]) := by
          show (D.notes.set (zs.idxOf z) (D.notes.getD (zs.idxOf z) [] ++ [(y, n)]))[j]? = _
          rw [hj, List.getElem?_set_self (List.getElem?_eq_some_iff.mp h).1, getD_of h]
        rw [notes_fold zs j r _ _ e, List.filterMap_cons]
        have en : noteAt zs j (.put z y n) = some (y, n) := if_pos hj
        rw [en, List.append_assoc]
        rfl
      · have e : (doneD zs D (.put z y n)).notes[j]? = some l := by
          show (D.notes.set (zs.idxOf z) (D.notes.getD (zs.idxOf z) [] ++ [(y, n)]))[j]? = _
          rw [List.getElem?_set_ne hj]
          exact h
        rw [notes_fold zs j r _ _ e, List.filterMap_cons]
        have en : noteAt zs j (.put z y n) = none := if_neg hj
        rw [en]
/-- the first deeds: each puts a note to the next one -/
def roundDs (as : List Str) (ns : List Int) : List Deed := (List.range ns.length).map fun i => .put (rd as i) (rd as (i + 1)) (ns.getD i 0)
theorem roundDs_snoc (as : List Str) (ns : List Int) (n : Int) : roundDs as (ns ++ [n]) = roundDs as ns ++ [.put (rd as ns.length) (rd as (ns.length + 1)) n] := by
  unfold roundDs
  rw [List.length_append, show [n].length = 1 from rfl, List.range_succ, List.map_append]
  congr 1
  · refine List.map_congr_left fun i hi => ?_
    have hi' := List.mem_range.mp hi
    rw [List.getD_eq_getElem?_getD, List.getElem?_append_left hi', List.getD_eq_getElem?_getD]
  · show [Deed.put _ _ ((ns ++ [n]).getD ns.length 0)] = _
    rw [List.getD_eq_getElem?_getD, List.getElem?_append_right (Nat.le_refl _), Nat.sub_self]
    rfl
theorem idx_inj {zs : List Str} {x y : Str} (hx : x ∈ zs) (hy : y ∈ zs) (h : zs.idxOf x = zs.idxOf y) : x = y := by
  have e1 := idx_get hx
  rw [h, idx_get hy] at e1
  exact (Option.some.inj e1).symm
theorem rd_inj {as : List Str} (nd : as.Nodup) {i k : Nat} (hk : k < as.length) (h : rd as k = rd as i) : k = i % as.length := by
  have hl := Nat.mod_lt i (show 0 < as.length by omega)
  have e1 := rd_at hk
  have e2 := rd_at hl
  have e3 : rd as (i % as.length) = rd as i := by
    unfold rd
    rw [Nat.mod_mod]
  rw [e3, ← h, ← e1] at e2
  exact ((List.getElem?_inj hl nd).mp e2).symm
theorem round_md {zs as : List Str} {ns : List Int} {rest : List Deed} (nz : NamesOk zs) (nd : as.Nodup) (sub : ∀ y ∈ as, y ∈ zs) (h0 : 0 < as.length) (ln : ns.length = as.length) {k : Nat} (gd : Gd zs (mdAt zs (roundDs as ns ++ rest)) k) : Round (nxD zs (mdAt zs (roundDs as ns ++ rest))) as := fun i => by
  have hm := sub _ (rd_mem h0 i)
  have hj : zs.idxOf (rd as i) < zs.length := List.idxOf_lt_length_of_mem hm
  have e0 : (newMd zs.length).notes[zs.idxOf (rd as i)]? = some [] := by
    show (List.replicate zs.length [])[_]? = _
    rw [List.getElem?_replicate, if_pos hj]
  have el : (mdAt zs (roundDs as ns ++ rest)).notes[zs.idxOf (rd as i)]? = _ := notes_fold zs (zs.idxOf (rd as i)) (roundDs as ns ++ rest) _ _ e0
  rw [List.nil_append, List.filterMap_append] at el
  have ef : (mdAt zs (roundDs as ns ++ rest)).fallen[zs.idxOf (rd as i)]? = some 0 := by
    rw [gd.zf]
    show (List.replicate zs.length 0)[_]? = _
    rw [List.getElem?_replicate, if_pos hj]
  rw [nxD_at nz.nd (idx_get hm) el ef, left_zero fun n hn => (gd.nt _ (List.mem_of_getElem? el) n hn).2.1]
  have all : ∀ n ∈ (roundDs as ns).filterMap (noteAt zs (zs.idxOf (rd as i))), n.1 = rd as (i + 1) := fun n hn => by
    obtain ⟨d, hd, e⟩ := List.mem_filterMap.mp hn
    unfold roundDs at hd
    obtain ⟨k', hk', rfl⟩ := List.mem_map.mp hd
    have hk2 := List.mem_range.mp hk'
    have e' : (if zs.idxOf (rd as k') = zs.idxOf (rd as i) then some (rd as (k' + 1), ns.getD k' 0) else none) = some n := e
    split at e'
    · rename_i hc
      have := rd_inj nd (by omega) (idx_inj (sub _ (rd_mem h0 k')) hm hc)
      rw [← Option.some.inj e', this]
      show rd as (i % as.length + 1) = _
      unfold rd
      rw [Nat.mod_add_mod]
    · cases e'
  have hne : (roundDs as ns).filterMap (noteAt zs (zs.idxOf (rd as i))) ≠ [] := fun c => by
    have hl := Nat.mod_lt i h0
    have e3 : rd as (i % as.length) = rd as i := by
      unfold rd
      rw [Nat.mod_mod]
    have hm2 : (rd as (i % as.length + 1), ns.getD (i % as.length) 0) ∈ (roundDs as ns).filterMap (noteAt zs (zs.idxOf (rd as i))) := by
      refine List.mem_filterMap.mpr ⟨.put (rd as (i % as.length)) (rd as (i % as.length + 1)) (ns.getD (i % as.length) 0), ?_, if_pos (by rw [e3])⟩
      unfold roundDs
      exact List.mem_map.mpr ⟨i % as.length, List.mem_range.mpr (by omega), rfl⟩
    rw [c] at hm2
    cases hm2
  cases h : (roundDs as ns).filterMap (noteAt zs (zs.idxOf (rd as i))) with
  | nil => exact absurd h hne
  | cons n r =>
    show some n.1 = _
    rw [all n (by rw [h]; exact List.mem_cons_self)]
end Rc

namespace Rc
open PySem PySem.Spec PyProof.Rows L2 RZ
/-! ### the settled one is the greatest -/
theorem part_mono {a f g : Int} (h : f ≤ g) : partOf a f ≤ partOf a g ∧ f - partOf a f ≤ g - partOf a g := by
  unfold partOf
  constructor <;> (repeat' split) <;> omega
theorem sumTo_gone (y t : Str) (a f : Int) (r : List (Str × Int)) (h : 0 ≤ partOf a f) : sumTo y (goneN ((t, a) :: r) f) = (if t = y then partOf a f else 0) + sumTo y (goneN r (f - partOf a f)) := by
  rw [goneN_cons, sumTo_app, sumTo_one y t _ h]
theorem part_nonneg {a f : Int} (ha : 1 ≤ a) (hf : 0 ≤ f) : 0 ≤ partOf a f ∧ 0 ≤ f - partOf a f := by
  unfold partOf
  constructor <;> (repeat' split) <;> omega
theorem gone_mono (y : Str) : ∀ {l : List (Str × Int)} {f g : Int}, (∀ n ∈ l, 1 ≤ n.2) → 0 ≤ f → f ≤ g → sumTo y (goneN l f) ≤ sumTo y (goneN l g)
  | [], _, _, _, _, _ => Int.le_refl _
  | (t, a) :: r, f, g, hn, hf, hg => by
    have ha : 1 ≤ a := hn (t, a) List.mem_cons_self
    obtain ⟨p1, p2⟩ := part_nonneg ha hf
    obtain ⟨q1, q2⟩ := part_nonneg ha (show 0 ≤ g by omega)
    obtain ⟨m1, m2⟩ := part_mono (a := a) hg
    rw [sumTo_gone y t a f r p1, sumTo_gone y t a g r q1]
    have ih := gone_mono y (l := r) (fun n hn' => hn n (List.mem_cons_of_mem _ hn')) p2 m2
    split <;> omega
/-- a sum over some persons -/
def sumOn (S : List Str) (h : Str → Int) : Int := (S.map h).sum
theorem sumOn_add (S : List Str) (h k : Str → Int) : sumOn S (fun y => h y + k y) = sumOn S h + sumOn S k := by
  induction S with
  | nil => rfl
  | cons y r ih =>
    unfold sumOn at ih ⊢
    simp only [List.map_cons, List.sum_cons]
    omega
theorem sumOn_le {S : List Str} {h k : Str → Int} (hh : ∀ y ∈ S, h y ≤ k y) : sumOn S h ≤ sumOn S k := by
  induction S with
  | nil => exact Int.le_refl _
  | cons y r ih =>
    have h1 := hh y List.mem_cons_self
    have h2 := ih fun z hz => hh z (List.mem_cons_of_mem _ hz)
    unfold sumOn at h2 ⊢
    simp only [List.map_cons, List.sum_cons]
    omega
theorem sumOn_one {S : List Str} (nd : S.Nodup) (t : Str) {m : Int} (h : 0 ≤ m) : sumOn S (fun y => if t = y then m else 0) ≤ m ∧ (t ∉ S → sumOn S (fun y => if t = y then m else 0) = 0) := by
  induction S with
  | nil => exact ⟨h, fun _ => rfl⟩
  | cons y r ih =>
    obtain ⟨n1, n2⟩ := List.nodup_cons.mp nd
    obtain ⟨i1, i2⟩ := ih n2
    unfold sumOn at i1 i2 ⊢
    simp only [List.map_cons, List.sum_cons]
    by_cases e : t = y
    · subst e
      rw [if_pos rfl, i2 n1]
      exact ⟨by omega, fun c => absurd List.mem_cons_self c⟩
    · rw [if_neg e]
      exact ⟨by omega, fun c => by rw [i2 fun z => c (List.mem_cons_of_mem _ z)]; rfl⟩
theorem sumOn_congr {S : List Str} {h k : Str → Int} (hh : ∀ y ∈ S, h y = k y) : sumOn S h = sumOn S k :=
  Int.le_antisymm (sumOn_le fun y hy => Int.le_of_eq (hh y hy)) (sumOn_le fun y hy => Int.le_of_eq (hh y hy).symm)
/-- what more falls to some persons is no more than what more falls -/
theorem gone_on {S : List Str} (nd : S.Nodup) : ∀ {l : List (Str × Int)} {f g : Int}, (∀ n ∈ l, 1 ≤ n.2) → 0 ≤ f → f ≤ g → sumOn S (fun y => sumTo y (goneN l g) - sumTo y (goneN l f)) ≤ g - f
  | [], f, g, _, _, hg => by
    have : sumOn S (fun y => sumTo y (goneN [] g) - sumTo y (goneN [] f)) = sumOn S (fun _ => 0) := sumOn_congr fun y _ => by
      rw [goneN_nil, goneN_nil, sumTo_nil]
      rfl
    rw [this]
    have h0 : sumOn S (fun _ => 0) ≤ 0 := by
      have := (sumOn_one nd Str.empty (m := 0) (Int.le_refl _)).1
      have e : sumOn S (fun y => if Str.empty = y then (0 : Int) else 0) = sumOn S (fun _ => 0) := sumOn_congr fun y _ => by split <;> rfl
      omega
    omega
  | (t, a) :: r, f, g, hn, hf, hg => by
    have ha : 1 ≤ a := hn (t, a) List.mem_cons_self
    obtain ⟨p1, p2⟩ := part_nonneg ha hf
    obtain ⟨q1, q2⟩ := part_nonneg ha (show 0 ≤ g by omega)
    obtain ⟨m1, m2⟩ := part_mono (a := a) hg
    have ih := gone_on nd (l := r) (fun n hn' => hn n (List.mem_cons_of_mem _ hn')) p2 m2
    have e : sumOn S (fun y => sumTo y (goneN ((t, a) :: r) g) - sumTo y (goneN ((t, a) :: r) f)) = sumOn S (fun y => (if t = y then partOf a g - partOf a f else 0) + (sumTo y (goneN r (g - partOf a g)) - sumTo y (goneN r (f - partOf a f)))) := sumOn_congr fun y _ => by
      rw [sumTo_gone y t a f r p1, sumTo_gone y t a g r q1]
      split <;> omega
    rw [e, sumOn_add]
    have := (sumOn_one nd t (m := partOf a g - partOf a f) (by omega)).1
    omega
/-- less, where the due note is to none of them -/
theorem gone_less {S : List Str} (nd : S.Nodup) {l r : List (Str × Int)} {f g b : Int} {t : Str} (hn : ∀ n ∈ l, 1 ≤ n.2) (hf : 0 ≤ f) (hg : f < g) (e : leftN l f = (t, b) :: r) (b1 : 1 ≤ b) (ht : t ∉ S) :
    sumOn S (fun y => sumTo y (goneN l g) - sumTo y (goneN l f)) < g - f := by
  by_cases hb : b ≤ g - f
  · obtain ⟨_, h2⟩ := fall_one (m := b) hn hf (by omega) (Int.le_refl _) e
    have h3 := gone_on nd (l := l) (f := f + b) (g := g) hn (by omega) (by omega)
    have e2 : sumOn S (fun y => sumTo y (goneN l g) - sumTo y (goneN l f)) = sumOn S (fun y => sumTo y (goneN l g) - sumTo y (goneN l (f + b))) := sumOn_congr fun y hy => by
      have hne : ¬ t = y := fun c => ht (by rw [c]; exact hy)
      rw [h2 y, if_neg hne]
      omega
    omega
  · obtain ⟨_, h2⟩ := fall_one (m := g - f) hn hf (by omega) (by omega) e
    have eg : f + (g - f) = g := by omega
    rw [eg] at h2
    have e2 : sumOn S (fun y => sumTo y (goneN l g) - sumTo y (goneN l f)) = sumOn S (fun _ => 0) := sumOn_congr fun y hy => by
      have hne : ¬ t = y := fun c => ht (by rw [c]; exact hy)
      rw [h2 y, if_neg hne]
      omega
    have h0 : sumOn S (fun _ => 0) ≤ 0 := by
      have := (sumOn_one nd Str.empty (m := 0) (Int.le_refl _)).1
      have e : sumOn S (fun y => if Str.empty = y then (0 : Int) else 0) = sumOn S (fun _ => 0) := sumOn_congr fun y _ => by split <;> rfl
      omega
    omega
/-! ### some whose due notes stay among them are led into a ring -/
theorem stay_ring {zs S : List Str} {nx : Str → Option Str} (ld : Leads zs nx) {z0 : Str} (h0 : z0 ∈ S) (sub : ∀ y ∈ S, y ∈ zs) (st : ∀ y ∈ S, ∃ x, nx y = some x ∧ x ∈ S) : ∃ z r, z ∈ zs ∧ ringM zs nx z = some r := by
  have en := trail_ended ld (sub _ h0)
  have ch := trailM_chain zs nx z0
  obtain ⟨tl, eT⟩ := en.first
  obtain ⟨ini, y, eT2, ed⟩ := en.last
  have eL := lastM_eq eT2
  have nT := en.nd
  have bk := en.back
  -- all of the trail are among them
  have allS : ∀ (i : Nat) (x : Str), (trailM zs nx z0)[i]? = some x → x ∈ S := fun i => by
    induction i with
    | zero =>
      intro x hx
      rw [eT] at hx
      exact Option.some.inj hx ▸ h0
    | succ i ih =>
      intro x hx
      have hi : i < (trailM zs nx z0).length := by
        have := (List.getElem?_eq_some_iff.mp hx).1
        omega
      have e1 := List.getElem?_eq_getElem hi
      have c := ch i _ _ e1 hx
      obtain ⟨x', hx', hs⟩ := st _ (ih _ e1)
      rw [c] at hx'
      exact Option.some.inj hx' ▸ hs
  have hyS : y ∈ S := allS ini.length y (by rw [eT2, List.getElem?_append_right (Nat.le_refl _), Nat.sub_self]; rfl)
  obtain ⟨x, hx, _⟩ := st y hyS
  have hxT := bk x (by rw [ed]; exact hx)
  generalize hk : (trailM zs nx z0).idxOf x = k
  have hkl : k < (trailM zs nx z0).length := hk ▸ List.idxOf_lt_length_of_mem hxT
  have hkx : (trailM zs nx z0)[k]? = some x := hk ▸ idx_get hxT
  have lT : (trailM zs nx z0).length = ini.length + 1 := by rw [eT2, List.length_append]; rfl
  have la : ((trailM zs nx z0).drop k).length = ini.length + 1 - k := by rw [List.length_drop, lT]
  have at_ : ∀ i, i < ((trailM zs nx z0).drop k).length → (trailM zs nx z0)[k + i]? = some (rd ((trailM zs nx z0).drop k) i) := fun i hi => by
    rw [← List.getElem?_drop]
    exact rd_at hi
  have r0 : rd ((trailM zs nx z0).drop k) 0 = x := by
    have := at_ 0 (by omega)
    rw [Nat.add_zero, hkx] at this
    exact (Option.some.inj this).symm
  have hround : Round nx ((trailM zs nx z0).drop k) := fun i => by
    have hpos : 0 < ((trailM zs nx z0).drop k).length := by omega
    have hl := Nat.mod_lt i hpos
    have e1 : rd ((trailM zs nx z0).drop k) i = rd ((trailM zs nx z0).drop k) (i % ((trailM zs nx z0).drop k).length) := by
      unfold rd
      rw [Nat.mod_mod]
    have e2 : rd ((trailM zs nx z0).drop k) (i + 1) = rd ((trailM zs nx z0).drop k) (i % ((trailM zs nx z0).drop k).length + 1) := by
      unfold rd
      rw [Nat.mod_add_mod]
    rw [e1, e2]
    generalize i % ((trailM zs nx z0).drop k).length = j at hl
    have a1 := at_ j hl
    by_cases hj : j + 1 < ((trailM zs nx z0).drop k).length
    · exact ch (k + j) _ _ a1 (by have := at_ (j + 1) hj; rw [← Nat.add_assoc] at this; exact this)
    · have ej : k + j = ini.length := by omega
      have ey : rd ((trailM zs nx z0).drop k) j = y := by
        rw [ej, eT2, List.getElem?_append_right (Nat.le_refl _), Nat.sub_self] at a1
        rw [← eT2] at a1
        exact (Option.some.inj a1).symm
      have ej1 : j + 1 = ((trailM zs nx z0).drop k).length := by omega
      have e3 : rd ((trailM zs nx z0).drop k) (j + 1) = x := by
        rw [← r0]
        unfold rd
        rw [ej1, Nat.mod_self, Nat.zero_mod]
      rw [ey, e3]
      exact hx
  have hxz : x ∈ zs := en.sub x hxT
  obtain ⟨r, hr⟩ := round_ring ld (nT.sublist (List.drop_sublist _ _)) (by omega) (by rw [r0]; exact hxz) hround
  rw [r0] at hr
  exact ⟨x, r, hxz, hr⟩
/-! ### sums over all -/
theorem sumOn_lt {S : List Str} {h k : Str → Int} (hh : ∀ y ∈ S, h y ≤ k y) {z : Str} (hz : z ∈ S) (hl : h z < k z) : sumOn S h < sumOn S k := by
  induction S with
  | nil => cases hz
  | cons y r ih =>
    have h1 := hh y List.mem_cons_self
    have h3 := sumOn_le (S := r) (h := h) (k := k) fun z hz => hh z (List.mem_cons_of_mem _ hz)
    rcases List.mem_cons.mp hz with e | e
    · subst e
      unfold sumOn at h3 ⊢
      simp only [List.map_cons, List.sum_cons]
      omega
    · have h2 := ih (fun z hz => hh z (List.mem_cons_of_mem _ hz)) e
      unfold sumOn at h2 ⊢
      simp only [List.map_cons, List.sum_cons]
      omega
theorem sumOn_zero (S : List Str) : sumOn S (fun _ => 0) = 0 := by
  induction S with
  | nil => rfl
  | cons y r ih =>
    unfold sumOn at ih ⊢
    simp only [List.map_cons, List.sum_cons]
    omega
theorem sumOn_sub (S : List Str) (h k : Str → Int) : sumOn S (fun y => h y - k y) = sumOn S h - sumOn S k := by
  induction S with
  | nil => rfl
  | cons y r ih =>
    unfold sumOn at ih ⊢
    simp only [List.map_cons, List.sum_cons]
    omega
theorem sumOn_comm (S T : List Str) (c : Str → Str → Int) : sumOn S (fun y => sumOn T (fun x => c x y)) = sumOn T (fun x => sumOn S (fun y => c x y)) := by
  induction S with
  | nil => exact (sumOn_zero T).symm
  | cons y r ih =>
    have e1 : sumOn (y :: r) (fun y => sumOn T (fun x => c x y)) = sumOn T (fun x => c x y) + sumOn r (fun y => sumOn T (fun x => c x y)) := rfl
    have e2 : sumOn T (fun x => sumOn (y :: r) (fun y => c x y)) = sumOn T (fun x => c x y + sumOn r (fun y => c x y)) := rfl
    rw [e1, e2, sumOn_add, ih]
theorem sumOn_filter (p : Str → Bool) (h : Str → Int) : ∀ S : List Str, sumOn (S.filter p) h = sumOn S (fun x => if p x = true then h x else 0)
  | [] => rfl
  | y :: r => by
    have ih := sumOn_filter p h r
    rw [List.filter_cons]
    have e2 : sumOn (y :: r) (fun x => if p x = true then h x else 0) = (if p y = true then h y else 0) + sumOn r (fun x => if p x = true then h x else 0) := rfl
    rw [e2, ← ih]
    by_cases hp : p y = true
    · rw [if_pos hp, if_pos hp]
      rfl
    · rw [if_neg hp, if_neg hp]
      omega
theorem zip_on {β : Type} {zs : List Str} (nd : zs.Nodup) {A : List β} {B : List Int} {a0 : β} (la : A.length = zs.length) (lb : B.length = zs.length) (h : β × Int → Int) : ((A.zip B).map h).sum = sumOn zs (fun x => h (A.getD (zs.idxOf x) a0, B.getD (zs.idxOf x) 0)) := by
  unfold sumOn
  congr 1
  refine List.ext_getElem? fun i => ?_
  rw [List.getElem?_map, List.getElem?_map]
  by_cases hi : i < zs.length
  · have ha : i < A.length := by omega
    have hb : i < B.length := by omega
    rw [List.getElem?_zip_eq_some (z := (A[i], B[i])) |>.mpr ⟨List.getElem?_eq_getElem ha, List.getElem?_eq_getElem hb⟩, List.getElem?_eq_getElem hi]
    show some (h (A[i], B[i])) = some (h (A.getD (zs.idxOf zs[i]) a0, B.getD (zs.idxOf zs[i]) 0))
    rw [nd.idxOf_getElem i hi, getD_of (List.getElem?_eq_getElem ha), getD_of (List.getElem?_eq_getElem hb)]
  · rw [List.getElem?_eq_none (by rw [List.length_zip]; omega), List.getElem?_eq_none (by omega)]
    rfl
theorem left_some : ∀ {l : List (Str × Int)} {f : Int}, (∀ n ∈ l, 1 ≤ n.2) → 0 ≤ f → f < wholeN l → ∃ t b r, leftN l f = (t, b) :: r ∧ 1 ≤ b
  | [], f, _, h0, h => by
    have : wholeN [] = 0 := rfl
    omega
  | (t, a) :: r, f, hn, h0, h => by
    have ha : 1 ≤ a := hn (t, a) List.mem_cons_self
    rw [wholeN_cons] at h
    rw [leftN_cons]
    obtain ⟨p1, p2⟩ := part_nonneg ha h0
    by_cases hp : partOf a f < a
    · rw [if_pos hp]
      exact ⟨t, a - partOf a f, _, rfl, by omega⟩
    · rw [if_neg hp]
      have pe : partOf a f = a := by
        unfold partOf at hp ⊢
        split at hp <;> (split <;> omega)
      obtain ⟨t', b, r', e, b1⟩ := left_some (l := r) (f := f - partOf a f) (fun n hn' => hn n (List.mem_cons_of_mem _ hn')) p2 (by have : f < a + wholeN r := h; omega)
      exact ⟨t', b, r', e, b1⟩
def withF (D : Md) (G : List Int) : Md := { D with fallen := G }
/-- nobody can pay, and there is no ring -/
structure Settled (zs : List Str) (D : Md) : Prop where
  pay : ∀ z ∈ zs, mostP (bkOf zs D) (zs.idxOf z) z = 0
  ring : ∀ z ∈ zs, ringM zs (nxD zs D) z = none
/-- what might have fallen, and is covered -/
structure Covers (zs : List Str) (D : Md) (G : List Int) : Prop where
  len : G.length = zs.length
  low : ∀ x ∈ G, 0 ≤ x
  top : ∀ (i : Nat) (l : List (Str × Int)) (x : Int), D.notes[i]? = some l → G[i]? = some x → x ≤ wholeN l
  cov : ∀ (i : Nat) (y : Str), zs[i]? = some y → 0 ≤ cashM (bkOf zs (withF D G)) i y
theorem settled_greatest {zs : List Str} {D : Md} {G : List Int} (g : Gs zs D) (st : Settled zs D) (cv : Covers zs D G) : ∀ z ∈ zs, G.getD (zs.idxOf z) 0 ≤ D.fallen.getD (zs.idxOf z) 0 := fun z0 hz0 => Decidable.byContradiction fun hc => by
  have nd := g.nz.nd
  -- those of whom the other has more
  have hS : ∀ y, y ∈ zs.filter (fun y => decide (D.fallen.getD (zs.idxOf y) 0 < G.getD (zs.idxOf y) 0)) ↔ y ∈ zs ∧ D.fallen.getD (zs.idxOf y) 0 < G.getD (zs.idxOf y) 0 := fun y => by
    rw [List.mem_filter]
    exact ⟨fun h => ⟨h.1, of_decide_eq_true h.2⟩, fun h => ⟨h.1, decide_eq_true h.2⟩⟩
  generalize hSd : zs.filter (fun y => decide (D.fallen.getD (zs.idxOf y) 0 < G.getD (zs.idxOf y) 0)) = S at hS
  have ndS : S.Nodup := hSd ▸ nd.sublist (List.filter_sublist)
  have at_ : ∀ x ∈ zs, ∃ l f x', D.notes[zs.idxOf x]? = some l ∧ D.fallen[zs.idxOf x]? = some f ∧ G[zs.idxOf x]? = some x' ∧ (∀ n ∈ l, 1 ≤ n.2) ∧ 0 ≤ f ∧ 0 ≤ x' ∧ x' ≤ wholeN l := fun x hx => by
    have hj := List.idxOf_lt_length_of_mem hx
    have h1 : zs.idxOf x < D.notes.length := by rw [g.ln]; exact hj
    have h2 : zs.idxOf x < D.fallen.length := by rw [g.lf]; exact hj
    have h3 : zs.idxOf x < G.length := by rw [cv.len]; exact hj
    exact ⟨_, _, _, List.getElem?_eq_getElem h1, List.getElem?_eq_getElem h2, List.getElem?_eq_getElem h3, fun n hn => (g.nt _ (List.getElem_mem h1) n hn).2.1, g.fl _ (List.getElem_mem h2), cv.low _ (List.getElem_mem h3), cv.top _ _ _ (List.getElem?_eq_getElem h1) (List.getElem?_eq_getElem h3)⟩
  obtain ⟨z, r, hz, hR⟩ := stay_ring (S := S) (z0 := z0) g.walks.ld ((hS z0).mpr ⟨hz0, by omega⟩) (fun y hy => ((hS y).mp hy).1) (fun y0 hy0 => by
    obtain ⟨hy0z, hy0l⟩ := (hS y0).mp hy0
    obtain ⟨l0, f0, x0, el0, ef0, eg0, hn0, hf0, hx0, hw0⟩ := at_ y0 hy0z
    rw [getD_of ef0, getD_of eg0] at hy0l
    obtain ⟨t, b, r0, eL, b1⟩ := left_some hn0 hf0 (by omega)
    have hnx : nxD zs D y0 = some t := by
      rw [nxD_at nd (idx_get hy0z) el0 ef0, eL]
      rfl
    refine ⟨t, hnx, Decidable.byContradiction fun ht => ?_⟩
    -- all sums
    have cF : ∀ y ∈ S, cashM (bkOf zs D) (zs.idxOf y) y = 0 := fun y hy => by
      obtain ⟨hyz, hyl⟩ := (hS y).mp hy
      obtain ⟨l, f, x, el, ef, eg, hn, hf, hx, hw⟩ := at_ y hyz
      rw [getD_of ef, getD_of eg] at hyl
      obtain ⟨t', b', r', eL', b1'⟩ := left_some hn hf (by omega)
      have eo : (duesM (bkOf zs D)).getD (zs.idxOf y) none = some (t', b') := by
        rw [getD_of (dues_at (M := bkOf zs D) el ef), eL']
        rfl
      have := st.pay y hyz
      rw [mostP_some (n := (t', b')) eo] at this
      have c0 := g.cs _ _ (idx_get hyz)
      split at this
      · exact this
      · have hb' : b' = 0 := this
        omega
    have e1 : ∀ (F : List Int), F.length = zs.length → ∀ y, fallTo (bkOf zs (withF D F)) y = sumOn zs (fun x => sumTo y (goneN (D.notes.getD (zs.idxOf x) []) (F.getD (zs.idxOf x) 0))) := fun F lF y => zip_on nd (A := D.notes) (B := F) (a0 := []) g.ln lF fun p => sumTo y (goneN p.1 p.2)
    have dif : ∀ y ∈ S, cashM (bkOf zs (withF D G)) (zs.idxOf y) y - cashM (bkOf zs D) (zs.idxOf y) y = sumOn zs (fun x => sumTo y (goneN (D.notes.getD (zs.idxOf x) []) (G.getD (zs.idxOf x) 0)) - sumTo y (goneN (D.notes.getD (zs.idxOf x) []) (D.fallen.getD (zs.idxOf x) 0))) - (G.getD (zs.idxOf y) 0 - D.fallen.getD (zs.idxOf y) 0) := fun y hy => by
      rw [sumOn_sub, ← e1 G cv.len y, ← e1 D.fallen g.lf y]
      show (D.given.getD (zs.idxOf y) 0 + fallTo (bkOf zs (withF D G)) y - G.getD (zs.idxOf y) 0) - (D.given.getD (zs.idxOf y) 0 + fallTo (bkOf zs D) y - D.fallen.getD (zs.idxOf y) 0) = fallTo (bkOf zs (withF D G)) y - fallTo (bkOf zs D) y - _
      omega
    have low : 0 ≤ sumOn S (fun y => cashM (bkOf zs (withF D G)) (zs.idxOf y) y - cashM (bkOf zs D) (zs.idxOf y) y) := by
      have := sumOn_le (S := S) (h := fun _ => 0) (k := fun y => cashM (bkOf zs (withF D G)) (zs.idxOf y) y - cashM (bkOf zs D) (zs.idxOf y) y) fun y hy => by
        have c1 := cv.cov _ _ (idx_get ((hS y).mp hy).1)
        have c2 := cF y hy
        show 0 ≤ cashM (bkOf zs (withF D G)) (zs.idxOf y) y - cashM (bkOf zs D) (zs.idxOf y) y
        omega
      rw [sumOn_zero] at this
      exact this
    rw [sumOn_congr dif, sumOn_sub, sumOn_comm] at low
    have top : sumOn zs (fun x => sumOn S (fun y => sumTo y (goneN (D.notes.getD (zs.idxOf x) []) (G.getD (zs.idxOf x) 0)) - sumTo y (goneN (D.notes.getD (zs.idxOf x) []) (D.fallen.getD (zs.idxOf x) 0)))) < sumOn zs (fun x => if decide (D.fallen.getD (zs.idxOf x) 0 < G.getD (zs.idxOf x) 0) = true then G.getD (zs.idxOf x) 0 - D.fallen.getD (zs.idxOf x) 0 else 0) := by
      refine sumOn_lt (z := y0) (fun x hx => ?_) hy0z ?_
      · obtain ⟨l, f, x', el, ef, eg, hn, hf, hx', hw⟩ := at_ x hx
        rw [getD_of el, getD_of ef, getD_of eg]
        by_cases h : f < x'
        · rw [if_pos (decide_eq_true h)]
          exact gone_on ndS hn hf (by omega)
        · rw [if_neg (by rw [decide_eq_false h]; exact Bool.false_ne_true)]
          have := sumOn_le (S := S) (h := fun y => sumTo y (goneN l x') - sumTo y (goneN l f)) (k := fun _ => 0) fun y _ => by
            have := gone_mono y (l := l) (f := x') (g := f) hn hx' (by omega)
            show sumTo y (goneN l x') - sumTo y (goneN l f) ≤ 0
            omega
          rw [sumOn_zero] at this
          exact this
      · rw [getD_of el0, getD_of ef0, getD_of eg0, if_pos (decide_eq_true hy0l)]
        exact gone_less ndS hn0 hf0 hy0l eL b1 ht
    rw [← sumOn_filter (fun x => decide (D.fallen.getD (zs.idxOf x) 0 < G.getD (zs.idxOf x) 0)) (fun x => G.getD (zs.idxOf x) 0 - D.fallen.getD (zs.idxOf x) 0) zs, hSd] at top
    omega)
  rw [st.ring z hz] at hR
  cases hR
theorem Gs.covers {zs : List Str} {D : Md} (g : Gs zs D) (gb : Gb D) : Covers zs D D.fallen := ⟨g.lf, g.fl, fun i l x el ex => gb.fw i l x el ex, g.cs⟩
/-- all ends are the same -/
theorem settled_one {zs : List Str} {D E : Md} (g : Gs zs D) (gb : Gb D) (g' : Gs zs E) (gb' : Gb E) (hg : E.given = D.given) (hn : E.notes = D.notes) (s : Settled zs D) (s' : Settled zs E) : E = D := by
  have c1 : Covers zs D E.fallen := by
    have c := g'.covers gb'
    refine ⟨c.len, c.low, fun i l x el ex => c.top i l x (by rw [hn]; exact el) ex, fun i y ei => ?_⟩
    have := c.cov i y ei
    unfold withF at this ⊢
    rw [hg, hn] at this
    exact this
  have c2 : Covers zs E D.fallen := by
    have c := g.covers gb
    refine ⟨c.len, c.low, fun i l x el ex => c.top i l x (by rw [← hn]; exact el) ex, fun i y ei => ?_⟩
    have := c.cov i y ei
    unfold withF at this ⊢
    rw [← hg, ← hn] at this
    exact this
  have h1 := settled_greatest g s c1
  have h2 := settled_greatest g' s' c2
  have e : E.fallen = D.fallen := by
    refine List.ext_getElem? fun i => ?_
    by_cases hi : i < zs.length
    · have ha : i < E.fallen.length := by rw [g'.lf]; exact hi
      have hb : i < D.fallen.length := by rw [g.lf]; exact hi
      have k1 := h1 zs[i] (List.getElem_mem hi)
      have k2 := h2 zs[i] (List.getElem_mem hi)
      rw [g.nz.nd.idxOf_getElem i hi, getD_of (List.getElem?_eq_getElem ha), getD_of (List.getElem?_eq_getElem hb)] at k1 k2
      rw [List.getElem?_eq_getElem ha, List.getElem?_eq_getElem hb]
      congr 1
      omega
    · rw [List.getElem?_eq_none (by rw [g'.lf]; omega), List.getElem?_eq_none (by rw [g.lf]; omega)]
  obtain ⟨a, b, c⟩ := D
  obtain ⟨a', b', c'⟩ := E
  simp only at hg hn e
  subst hg hn e
  rfl
/-! ### more never hurts -/
theorem gone_app : ∀ (l m : List (Str × Int)) (f : Int), (∀ n ∈ l, 1 ≤ n.2) → (∀ n ∈ m, 1 ≤ n.2) → 0 ≤ f → f ≤ wholeN l → goneN (l ++ m) f = goneN l f
  | [], m, f, _, hm, h0, h => by
    have e0 : wholeN [] = 0 := rfl
    have ef : f = 0 := by omega
    subst ef
    have : ∀ m : List (Str × Int), (∀ n ∈ m, 1 ≤ n.2) → goneN m 0 = [] := fun m => by
      induction m with
      | nil => exact fun _ => rfl
      | cons n r ih =>
        intro hm
        obtain ⟨t, a⟩ := n
        have ha : 1 ≤ a := hm (t, a) List.mem_cons_self
        rw [goneN_cons, part_zero ha]
        simp only [Int.lt_irrefl, if_false, Int.sub_zero, List.nil_append]
        exact ih fun n hn => hm n (List.mem_cons_of_mem _ hn)
    rw [List.nil_append, this m hm]
    rfl
  | (t, a) :: r, m, f, hl, hm, h0, h => by
    have ha : 1 ≤ a := hl (t, a) List.mem_cons_self
    obtain ⟨p1, p2⟩ := part_nonneg ha h0
    have hw : f - partOf a f ≤ wholeN r := by
      rw [wholeN_cons] at h
      have h' : f ≤ a + wholeN r := h
      have := wholeN_nonneg (l := r) fun n hn => hl n (List.mem_cons_of_mem _ hn)
      unfold partOf
      split <;> omega
    rw [List.cons_append, goneN_cons, goneN_cons, gone_app r m _ (fun n hn => hl n (List.mem_cons_of_mem _ hn)) hm p2 hw]
/-! ### each of a ring tells the same ring -/
theorem round_trail {zs : List Str} {nx : Str → Option Str} {as : List Str} (ld : Leads zs nx) (nd : as.Nodup) (h0 : 0 < as.length) (hz : rd as 0 ∈ zs) (hr : Round nx as) : trailM zs nx (rd as 0) = as := by
  have en := trail_ended ld hz
  have ch := trailM_chain zs nx (rd as 0)
  obtain ⟨tl, eT⟩ := en.first
  obtain ⟨ini, y, eT2, ed⟩ := en.last
  have eL := lastM_eq eT2
  have hT := round_at (T := trailM zs nx (rd as 0)) hr (by rw [eT]; rfl) ch
  have nT := en.nd
  have bk := en.back
  have lT : (trailM zs nx (rd as 0)).length = ini.length + 1 := by rw [eT2, List.length_append]; rfl
  have hy : y = rd as ini.length := by
    have := hT ini.length (by omega)
    rw [eT2, List.getElem?_append_right (Nat.le_refl _), Nat.sub_self] at this
    exact Option.some.inj this
  have hle : ini.length + 1 ≤ as.length := Decidable.byContradiction fun c => by
    have h1 := hT as.length (by omega)
    have h2 := hT 0 (by omega)
    have e : rd as as.length = rd as 0 := by
      unfold rd
      rw [Nat.mod_self, Nat.zero_mod]
    rw [e, ← h2] at h1
    have := (List.getElem?_inj (by omega) nT).mp h1
    omega
  have hb : rd as (ini.length + 1) ∈ trailM zs nx (rd as 0) := by
    refine bk _ ?_
    rw [eL, hy]
    exact hr _
  have hfull : ini.length + 1 = as.length := Decidable.byContradiction fun c => by
    obtain ⟨i, hi, e⟩ := List.getElem_of_mem hb
    have h1 := hT i hi
    rw [List.getElem?_eq_getElem hi, e] at h1
    have h2 := rd_at (as := as) (i := ini.length + 1) (by omega)
    have h3 := rd_at (as := as) (i := i) (by omega)
    rw [Option.some.inj h1, ← h3] at h2
    have := (List.getElem?_inj (by omega) nd).mp h2
    omega
  refine List.ext_getElem? fun i => ?_
  by_cases hi : i < as.length
  · rw [hT i (by omega), rd_at hi]
  · rw [List.getElem?_eq_none (by omega), List.getElem?_eq_none (by omega)]
theorem ring_round {zs : List Str} {nx : Str → Option Str} {z : Str} {r : List Str} (ld : Leads zs nx) (hz : z ∈ zs) (h : ringM zs nx z = some r) : Round nx (trailM zs nx z) := fun i => by
  have en := trail_ended ld hz
  have ch := trailM_chain zs nx z
  obtain ⟨tl, eT⟩ := en.first
  obtain ⟨ini, y, eT2, ed⟩ := en.last
  have eL := lastM_eq eT2
  have hl : nx (lastM zs nx z) = some z := by
    unfold ringM at h
    split at h
    · assumption
    · cases h
  have lT : (trailM zs nx z).length = ini.length + 1 := by rw [eT2, List.length_append]; rfl
  have hpos : 0 < (trailM zs nx z).length := by omega
  have hm := Nat.mod_lt i hpos
  have e1 : rd (trailM zs nx z) i = rd (trailM zs nx z) (i % (trailM zs nx z).length) := by
    unfold rd
    rw [Nat.mod_mod]
  have e2 : rd (trailM zs nx z) (i + 1) = rd (trailM zs nx z) (i % (trailM zs nx z).length + 1) := by
    unfold rd
    rw [Nat.mod_add_mod]
  rw [e1, e2]
  generalize i % (trailM zs nx z).length = j at hm
  have a1 := rd_at hm
  by_cases hj : j + 1 < (trailM zs nx z).length
  · exact ch j _ _ a1 (rd_at hj)
  · have ej : j = ini.length := by omega
    have ey : rd (trailM zs nx z) j = y := by
      have a2 : (ini ++ [y])[j]? = some y := by rw [ej, List.getElem?_append_right (Nat.le_refl _), Nat.sub_self]; rfl
      rw [← eT2, a1] at a2
      exact Option.some.inj a2
    have e3 : rd (trailM zs nx z) (j + 1) = z := by
      have ej1 : j + 1 = (trailM zs nx z).length := by omega
      have a3 := rd_at hpos
      have a4 : (trailM zs nx z)[0]? = some z := by rw [eT]; rfl
      rw [a3] at a4
      refine Eq.trans ?_ (Option.some.inj a4)
      unfold rd
      rw [ej1, Nat.mod_self, Nat.zero_mod]
    rw [ey, e3, ← eL]
    exact hl
theorem rot_rd {T : List Str} {k : Nat} (hk : k < T.length) (i : Nat) : rd (T.drop k ++ T.take k) i = rd T (k + i) := by
  have lr : (T.drop k ++ T.take k).length = T.length := by
    rw [List.length_append, List.length_drop, List.length_take]
    omega
  have hm := Nat.mod_lt i (show 0 < T.length by omega)
  have e1 : rd (T.drop k ++ T.take k) i = (T.drop k ++ T.take k).getD (i % T.length) Str.empty := by
    unfold rd
    rw [lr]
  have e2 : rd T (k + i) = T.getD ((k + i % T.length) % T.length) Str.empty := by
    unfold rd
    rw [Nat.add_mod_mod]
  rw [e1, e2]
  generalize i % T.length = j at hm
  rw [List.getD_eq_getElem?_getD, List.getD_eq_getElem?_getD]
  congr 1
  by_cases h : j < T.length - k
  · rw [List.getElem?_append_left (by rw [List.length_drop]; exact h), List.getElem?_drop, Nat.mod_eq_of_lt (by omega)]
  · rw [List.getElem?_append_right (by rw [List.length_drop]; omega), List.length_drop, List.getElem?_take, if_pos (by omega)]
    congr 1
    rw [Nat.mod_eq_sub_mod (by omega), Nat.mod_eq_of_lt (by omega)]
    omega
theorem no_rings {zs : List Str} {nx : Str → Option Str} (ld : Leads zs nx) (h : ∀ z ∈ zs, ∀ r, ringM zs nx z = some r → r.head? ≠ some z) : ∀ z ∈ zs, ringM zs nx z = none := fun z hz => by
  cases hR : ringM zs nx z with
  | none => rfl
  | some r =>
    exfalso
    have en := trail_ended ld hz
    have hzT : z ∈ trailM zs nx z := by
      obtain ⟨tl, eT⟩ := en.first
      rw [eT]
      exact List.mem_cons_self
    have hround := ring_round ld hz hR
    have nT := en.nd
    have sub := en.sub
    obtain ⟨f, rs, _, ef, fT, fz⟩ := find_some hz hzT
    generalize trailM zs nx z = T at hzT hround nT sub ef fT
    generalize hk : T.idxOf f = k
    have hkl : k < T.length := hk ▸ List.idxOf_lt_length_of_mem fT
    have hkf : T[k]? = some f := hk ▸ idx_get fT
    have pm : (T.drop k ++ T.take k).Perm T := by
      have := List.perm_append_comm (l₁ := T.drop k) (l₂ := T.take k)
      rw [List.take_append_drop] at this
      exact this
    have r0 : rd (T.drop k ++ T.take k) 0 = f := by
      rw [rot_rd hkl]
      have := rd_at hkl
      rw [hkf] at this
      exact (Option.some.inj this).symm
    have hr2 : Round nx (T.drop k ++ T.take k) := fun i => by
      rw [rot_rd hkl, rot_rd hkl]
      exact hround (k + i)
    have nd2 : (T.drop k ++ T.take k).Nodup := pm.symm.nodup nT
    have l0 : 0 < (T.drop k ++ T.take k).length := by
      rw [pm.length_eq]
      omega
    have et := round_trail ld nd2 l0 (by rw [r0]; exact fz) hr2
    obtain ⟨r2, hR2⟩ := round_ring ld nd2 l0 (by rw [r0]; exact fz) hr2
    rw [r0] at et hR2
    have ff : firstM zs (trailM zs nx f) = f := by
      rw [et, ← ef]
      unfold firstM
      congr 2
      funext x
      exact decide_eq_decide.mpr pm.mem_iff
    refine h f fz r2 hR2 ?_
    unfold ringM at hR2
    split at hR2
    · have e := Option.some.inj hR2
      rw [← e, ff]
      obtain ⟨tl, eT⟩ := (trail_ended ld fz).first
      rw [eT]
      simp
    · cases hR2
/-! ### where it ends -/
theorem settled_of {zs : List Str} {D : Md} (g : Gs zs D) (hr : ∀ z ∈ zs, ∀ r, ringM zs (nxD zs D) z = some r → r.head? ≠ some z) (hp : ∀ z ∈ zs, (duesM (bkOf zs D)).getD (zs.idxOf z) none = none ∨ cashM (bkOf zs D) (zs.idxOf z) z ≤ 0) : Settled zs D := by
  refine ⟨fun z hz => ?_, no_rings g.walks.ld hr⟩
  cases h : (duesM (bkOf zs D)).getD (zs.idxOf z) none with
  | none => exact mostP_none h
  | some n =>
    have gn : 1 ≤ n.2 ∧ n.2 ≤ 10 ^ 58 := (g.due (getD_mem h)).2
    have c0 := g.cs _ _ (idx_get hz)
    have c1 : cashM (bkOf zs D) (zs.idxOf z) z ≤ 0 := by
      rcases hp z hz with c | c
      · rw [h] at c
        cases c
      · exact c
    rw [mostP_some h]
    split <;> omega
theorem sum_seti : ∀ (l : List Int) (j : Nat) (f x : Int), l[j]? = some f → (l.set j x).sum = l.sum - f + x
  | [], j, f, x, h => by cases h
  | a :: r, 0, f, x, h => by
    have e : a = f := Option.some.inj h
    subst e
    simp only [List.set_cons_zero, List.sum_cons]
    omega
  | a :: r, j + 1, f, x, h => by
    have ih := sum_seti r j f x (by simpa using h)
    simp only [List.set_cons_succ, List.sum_cons]
    omega
theorem fell_sum {D : Md} {j : Nat} {f m : Int} (ef : D.fallen[j]? = some f) : (fellD D j (f + m)).fallen.sum = D.fallen.sum + m := by
  show (D.fallen.set j (f + m)).sum = _
  rw [sum_seti _ _ _ _ ef]
  omega
theorem fallAll_sum {zs : List Str} (m : Int) : ∀ (r : List Str) (D : Md), (∀ y ∈ r, y ∈ zs) → D.fallen.length = zs.length → (fallAll zs D r m).fallen.sum = D.fallen.sum + (r.length : Int) * m
  | [], D, _, _ => by
    show D.fallen.sum = _
    simp
  | x :: r, D, sub, lf => by
    have hx := sub x List.mem_cons_self
    have hl : zs.idxOf x < D.fallen.length := by
      rw [lf]
      exact List.idxOf_lt_length_of_mem hx
    rw [fallAll_cons, fallAll_sum m r _ (fun y hy => sub y (List.mem_cons_of_mem _ hy)) (by show (D.fallen.set _ _).length = _; rw [List.length_set]; exact lf), getD_of (List.getElem?_eq_getElem hl), fell_sum (List.getElem?_eq_getElem hl), List.length_cons, Int.natCast_add, Int.add_mul]
    simp
    omega
def wholesD (D : Md) : Int := (D.notes.map wholeN).sum
theorem fallen_le : ∀ {ns : List (List (Str × Int))} {fs : List Int}, fs.length = ns.length → (∀ (j : Nat) (l : List (Str × Int)) (f : Int), ns[j]? = some l → fs[j]? = some f → f ≤ wholeN l) → fs.sum ≤ (ns.map wholeN).sum
  | [], [], _, _ => Int.le_refl _
  | l :: ns, f :: fs, hl, h => by
    have h0 := h 0 l f rfl rfl
    have ih := fallen_le (ns := ns) (fs := fs) (by simpa using hl) fun j l' f' e1 e2 => h (j + 1) l' f' (by simpa using e1) (by simpa using e2)
    simp only [List.map_cons, List.sum_cons]
    omega
  | [], _ :: _, hl, _ => by simp at hl
  | _ :: _, [], hl, _ => by simp at hl
/-- what may yet fall -/
def restD (D : Md) : Nat := (wholesD D - D.fallen.sum).toNat
theorem rest_less {zs : List Str} {D E : Md} (g : Gs zs E) (gb : Gb E) (hn : E.notes = D.notes) (hs : D.fallen.sum < E.fallen.sum) : restD E < restD D := by
  have h1 := fallen_le (ns := E.notes) (fs := E.fallen) (by rw [g.lf, g.ln]) gb.fw
  unfold restD wholesD
  rw [← hn]
  omega
end Rc

namespace Rc
open PySem PySem.Spec PyProof.Rows L2 RZ
/-! ### all rings -/
def ringAt (zs : List Str) (nx : Str → Option Str) (z : Str) : Option (List Str) := match ringM zs nx z with
  | some r => if r.head? = some z then some r else none
  | none => none
def ringsM (zs : List Str) (nx : Str → Option Str) (l : List Str) : List (List Str) := l.filterMap (ringAt zs nx)
theorem ringsM_snoc (zs : List Str) (nx : Str → Option Str) (l : List Str) (z : Str) : ringsM zs nx (l ++ [z]) = ringsM zs nx l ++ (ringAt zs nx z).toList := by
  unfold ringsM
  rw [List.filterMap_append, List.filterMap_cons]
  cases ringAt zs nx z <;> rfl
theorem ring_ne {zs : List Str} {nx : Str → Option Str} {z : Str} {r : List Str} (ld : Leads zs nx) (hz : z ∈ zs) (h : ringM zs nx z = some r) : r ≠ [] := fun c => by
  obtain ⟨tl, eT⟩ := (trail_ended ld hz).first
  have lT : 1 ≤ (trailM zs nx z).length := by
    rw [eT, List.length_cons]
    omega
  unfold ringM at h
  split at h
  · have e := Option.some.inj h
    have e2 := congrArg List.length e
    rw [c, List.length_append, List.length_drop, List.length_take] at e2
    have e3 : ([] : List Str).length = 0 := rfl
    omega
  · cases h
/-- lists of their own, one for each ring -/
def RingsAt (H H' : Hp) (r : Addr) (as : List Addr) (rs : List (List Str)) : Prop := Paired (fun a x => H a = none ∧ a ≠ r ∧ H' a = some (.lst (x.map V.str))) as rs
theorem RingsAt.mono {H H' H2 : Hp} {r : Addr} {as : List Addr} {rs : List (List Str)} (h : RingsAt H H' r as rs) (s : ∀ a (x : List Str), H a = none → a ≠ r → H' a = some (.lst (x.map V.str)) → H2 a = some (.lst (x.map V.str))) : RingsAt H H2 r as rs := by
  unfold RingsAt at h ⊢
  induction h with
  | nil => exact .nil
  | cons a b ih => exact .cons ⟨a.1, a.2.1, s _ _ a.1 a.2.1 a.2.2⟩ ih
section
variable {P : Program} {w : World} {K : PySem.W.Frag} {mg : Str → Option Value} {base : Heap}
abbrev sRgS : Stmt := topS 13
abbrev nRgS : List Str := ["dues", "rings", "who", "ring"]
theorem scRgS : FnScope nRgS ["dues"] (defScope sRgS) := ⟨rfl, rfl, rfl, by decide +kernel, rfl, by decide +kernel, by decide +kernel⟩
def spRgS (K : PySem.W.Frag) : Sp := fun vs H Q _ => ∃ (d : Addr) (zs : List Str) (os : List (Option (Str × Int))), vs = [.ref d] ∧ DuesU K H d zs os ∧ Walks zs os ∧
  ∀ r as H', Same H H' → H r = none → H' r = some (.lst (List.map V.ref as)) → RingsAt H H' r as (ringsM zs (nxOf zs os) zs) → Q (.ref r) H'
theorem ok_rgS {f f1 : Addr} {fd fd1 : FuncData} (F : Fun K "rings_by" "rings_by" sRgS f fd) (RB : Has P w K mg base 2 "ring_by" ["dues", "who"] (spRgB K) f1 fd1) : FnOk P w K mg base CX0 3 f fd ["dues"] (spRgS K) := by
  refine F.ok scRgS (fun vs H Q E h => ?_) (fun cdv A outer s H vs Q E hr h => ?_)
  · obtain ⟨_, _, _, rfl, _⟩ := h
    rfl
  · obtain ⟨d, zs, os, rfl, hd, wk, q⟩ := h
    refine ⟨_, pss_cons (ps_set (i := 1) scRgS.nd rfl (.inl rfl) (pe_lst pa_nil))
      (pss_cons (ps_lock (ps_for PassesOwn.never rfl (pi_keys (pv 0)) (pg_name (i := 2) scRgS.nd rfl (.inl rfl))
        (pss_cons (ps_set (i := 3) scRgS.nd rfl (.inl rfl) (pe_call RB.ok hr (by rfl) RB.g RB.kp RB.b .nil pass0 (pa_cons (pv 0) (pa_cons (pv 2) pa_nil))))
        (pss_one (ps_if (PW.pt (pw_and (pt_cmpR op_notN (pv 3) pe_non (nomark _)) (pw_and1 (pt_cmpR op_eq (pe_ix ix_list (pv 3) pe_int (fun _ _ => rfl)) (pv 2) (nomark _)))))
          (pss_one (ps_expr (pe_bm PySem.F.plainAttrs_list PySem.F.slot_list_append PySem.F.type_list_append mt_append (pv 1) (pa_cons (pv 3) pa_nil)))) pss_nil)))))
      (pss_one (ps_ret (pv 1)))), ?_⟩
    refine ⟨Nat.zero_le _, fun r nr => ?_⟩
    have s0 := same_upd (o := .lst []) nr
    have hr0 : upd H r (.lst []) r = some (.lst []) := upd_same
    generalize upd H r (.lst []) = H0 at s0 hr0
    obtain ⟨vs, hdv, dvs⟩ := (hd.same s0).ex
    have lv : vs.length = zs.length := by
      rw [dvs.len, List.length_map, wk.lo]
    have lk : (dct zs vs).length = zs.length := dct_len lv
    have rd' : r ≠ d := fun c => by
      rw [c, hdv] at hr0
      cases hr0
    refine ⟨d, _, hdv, trivial, fun od => ?_⟩
    have hdL : upd H0 d (.frz od (.dK (dct zs vs))) d = some (.frz od (.dK (dct zs vs))) := upd_same
    have hrL : upd H0 d (.frz od (.dK (dct zs vs))) r = some (.lst []) := by
      rw [upd_ne rd']
      exact hr0
    have dvL : DtAll K (upd H0 d (.frz od (.dK (dct zs vs)))) vs (os.map dueD) := DtAll.keepT (kt_upd hdv fun z => z) _ (tupDs_map tup_due _) dvs
    have oldL : ∀ c o, H c = some o → c ≠ d → upd H0 d (.frz od (.dK (dct zs vs))) c = some o := fun c o e n => by
      rw [upd_ne n]
      exact s0 c o e
    generalize upd H0 d (.frz od (.dK (dct zs vs))) = HL at hdL hrL dvL oldL
    refine ⟨.ref d, rfl, d, od, rfl, .inl ⟨_, hdL, ?_⟩⟩
    refine for_it (walk_keys (kvs := dct zs vs)) (fun i σ H' => ∃ (as : List Addr) (y2 y3 : Option V), σ = [some (.ref d), some (.ref r), y2, y3] ∧ H' d = some (.frz od (.dK (dct zs vs))) ∧ DtAll K H' vs (os.map dueD) ∧ (∀ c o, H c = some o → c ≠ d → H' c = some o) ∧ H' r = some (.lst (as.map V.ref)) ∧ RingsAt H H' r as (ringsM zs (nxOf zs os) (zs.take i)) ∧ as.length ≤ i)
      ⟨[], _, _, rfl, hdL, dvL, oldL, hrL, .nil, Nat.le_refl _⟩ (fun i σ H' _ hP => ?_) (fun i x σ H1' H1 hi hP hY => ?_) (fun σ H1 hP => ?_)
    · obtain ⟨_, _, _, _, e, _⟩ := hP
      exact e
    · obtain ⟨rfl, k, v, ek, rfl⟩ := hY
      obtain ⟨as, y2, y3, rfl, hd1, dv1, old1, hr1, ra1, la1⟩ := hP
      rw [lk] at hi
      have hiv : i < vs.length := by omega
      have ek2 : (dct zs vs)[i]? = some (Sum.inr zs[i], vs[i]) := by
        unfold dct
        rw [List.getElem?_map, List.getElem?_zip_eq_some (z := (zs[i], vs[i])) |>.mpr ⟨List.getElem?_eq_getElem hi, List.getElem?_eq_getElem hiv⟩]
        rfl
      rw [ek2] at ek
      cases ek
      have hz : zs[i] ∈ zs := List.getElem_mem hi
      have tk := take_succ hi
      generalize zs[i] = z at hz tk
      have lz := wk.lz
      refine ⟨.ref d, rfl, .str z, rfl, d, z, zs, os, rfl, ⟨vs, .inr ⟨od, hd1⟩, dv1⟩, wk, hz, fun v H2 s2 rv => ?_⟩
      have hd2 := s2 _ _ hd1
      have dv2 := DtAll.same s2 _ dv1
      have old2 : ∀ c o, H c = some o → c ≠ d → H2 c = some o := fun c o e n => s2 _ _ (old1 c o e n)
      have hr2 := s2 _ _ hr1
      have ra2 : RingsAt H H2 r as (ringsM zs (nxOf zs os) (zs.take i)) := ra1.mono fun a x _ _ e => s2 _ _ e
      have tk2 := ringsM_snoc zs (nxOf zs os) (zs.take i) z
      rw [← tk] at tk2
      cases hR : ringM zs (nxOf zs os) z with
      | none =>
        rw [hR] at rv
        have ev : v = .non := rv
        subst ev
        have e0 : ringAt zs (nxOf zs os) z = none := by
          unfold ringAt
          rw [hR]
        rw [e0] at tk2
        refine ⟨.non, rfl, rfl, _, rfl, ?_⟩
        rw [decide_eq_true rfl]
        refine iteF (iteF ⟨as, _, _, rfl, hd2, dv2, old2, hr2, ?_, by omega⟩)
        rw [tk2, Option.toList_none, List.append_nil]
        exact ra2
      | some rr =>
        have ne := ring_ne wk.ld hz hR
        rw [hR] at rv
        obtain ⟨a, rfl, na, ha⟩ := rv
        have nar : a ≠ r := (ne_of_none hr1 na).symm
        have nad : a ≠ d := (ne_of_none hd1 na).symm
        have naH : H a = none := by
          cases e : H a with
          | none => rfl
          | some o =>
            rw [old1 a o e nad] at na
            cases na
        refine ⟨.ref a, rfl, rfl, _, rfl, ?_⟩
        rw [decide_eq_false (fun c => by cases c)]
        cases rr with
        | nil => exact absurd rfl ne
        | cons x rs =>
          refine iteT ⟨.ref a, rfl, a, _, 0, .str x, rfl, rfl, .inl (.inl ha), atI_nat (j := 0) rfl, .str z, rfl, rfl, _, rfl, ?_⟩
          by_cases hx : x = z
          · have e0 : ringAt zs (nxOf zs os) z = some (x :: rs) := by
              unfold ringAt
              rw [hR]
              exact if_pos (congrArg some hx)
            rw [e0] at tk2
            rw [show decide (V.str x = V.str z) = true from decide_eq_true (by rw [hx])]
            refine iteT ⟨.ref r, rfl, .inl ⟨rfl, _, .inl (.inl hr2)⟩, .ref a, rfl, r, _, _, rfl, rfl, hr2, by rw [List.length_map]; exact small1000 (by omega), ?_⟩
            have rdn : d ≠ r := fun c => rd' c.symm
            refine ⟨as ++ [a], _, _, rfl, by rw [upd_ne rdn]; exact hd2, DtAll.keepT (kt_upd hr2 fun z => z) _ (tupDs_map tup_due _) dv2, fun c o e n => ?_, by rw [upd_same, List.map_append]; rfl, ?_, by rw [List.length_append]; exact Nat.add_le_add_right la1 1⟩
            · rw [upd_ne (ne_of_none e nr)]
              exact old2 c o e n
            · rw [tk2]
              refine Paired.snoc (ra2.mono fun a x _ n e => by rw [upd_ne n]; exact e) ⟨naH, nar, ?_⟩
              rw [upd_ne nar]
              exact ha
          · have e0 : ringAt zs (nxOf zs os) z = none := by
              unfold ringAt
              rw [hR]
              exact if_neg (fun c => hx (Option.some.inj c))
            rw [e0] at tk2
            rw [show decide (V.str x = V.str z) = false from decide_eq_false (fun c => hx (V.str.inj c))]
            refine iteF ⟨as, _, _, rfl, hd2, dv2, old2, hr2, ?_, by omega⟩
            rw [tk2, Option.toList_none, List.append_nil]
            exact ra2
    · obtain ⟨as, y2, y3, rfl, hd1, dv1, old1, hr1, ra1, la1⟩ := hP
      rw [lk, List.take_length] at ra1
      obtain ⟨vs', hH, _⟩ := hd.ex
      have eH := s0 _ _ hH
      refine ⟨hd1, .ref r, rfl, q r as (upd H1 d (.dK (dct zs vs))) (fun c o e => ?_) nr (by rw [upd_ne rd']; exact hr1) (ra1.mono fun a x n _ e => ?_)⟩
      · by_cases hc : c = d
        · subst hc
          rw [s0 _ _ e] at hdv
          rw [upd_same]
          exact hdv.symm
        · rw [upd_ne hc]
          exact old1 c o e hc
      · rw [upd_ne (ne_of_none hH n).symm]
        exact e
end
end Rc

namespace Rc
open PySem PySem.Spec PyProof.Rows L2 RZ
/-! ### deeds at a book of which some has fallen -/
theorem gone_snoc {x : Str × Int} (hx : 1 ≤ x.2) : ∀ {l : List (Str × Int)} {f : Int}, (∀ n ∈ l, 1 ≤ n.2) → 0 ≤ f → f ≤ wholeN l → goneN (l ++ [x]) f = goneN l f
  | [], f, _, f0, fw => by
    have e : wholeN [] = 0 := rfl
    rw [e] at fw
    have e0 : f = 0 := by omega
    subst e0
    obtain ⟨t, a⟩ := x
    have ha : 1 ≤ a := hx
    show goneN [(t, a)] 0 = goneN [] 0
    rw [goneN_cons, goneN_nil, goneN_nil]
    have : partOf a 0 = 0 := by
      unfold partOf
      rw [if_pos (by omega)]
    rw [this, if_neg (by omega)]
    rfl
  | (t, a) :: r, f, h, f0, fw => by
    have h1 : 1 ≤ a := h _ List.mem_cons_self
    have hr : ∀ n ∈ r, 1 ≤ n.2 := fun m hm => h m (List.mem_cons_of_mem _ hm)
    have w0 := wholeN_nonneg hr
    rw [wholeN_cons] at fw
    have fw' : f ≤ a + wholeN r := fw
    show goneN ((t, a) :: (r ++ [x])) f = _
    rw [goneN_cons, goneN_cons]
    have hp : 0 ≤ f - partOf a f ∧ f - partOf a f ≤ wholeN r := by
      unfold partOf
      split <;> omega
    rw [gone_snoc hx hr hp.1 hp.2]
theorem whole_snoc (l : List (Str × Int)) (x : Str × Int) : wholeN (l ++ [x]) = wholeN l + x.2 := by
  unfold wholeN
  rw [List.map_append, List.sum_append]
  simp
structure Bd (D : Md) (k : Nat) : Prop where
  gv : ∀ g ∈ D.given, 0 ≤ g ∧ g ≤ (k : Int) * 10 ^ 58
  my : (D.notes.map List.length).sum ≤ k
theorem Gd.bd {zs : List Str} {D : Md} {k : Nat} (h : Gd zs D k) : Bd D k := ⟨h.gv, h.my⟩
theorem deed_ok {zs : List Str} {D : Md} {k : Nat} {d : Deed} (g : Gs zs D) (gb : Gb D) (bd : Bd D k) (hk : k + 1 ≤ 60) (od : d.Ok zs) : Gs zs (doneD zs D d) ∧ Gb (doneD zs D d) ∧ Bd (doneD zs D d) (k + 1) := by
  have mono : ∀ g ∈ D.given, 0 ≤ g ∧ g ≤ ((k + 1 : Nat) : Int) * 10 ^ 58 := fun g hg => by
    obtain ⟨a, b⟩ := bd.gv g hg
    refine ⟨a, Int.le_trans b (Int.mul_le_mul_of_nonneg_right (by omega) (by decide))⟩
  have le100 : ∀ {x : Int}, x ≤ ((k + 1 : Nat) : Int) * 10 ^ 58 → x ≤ 100 * 10 ^ 58 := fun {x} hx => Int.le_trans hx (Int.mul_le_mul_of_nonneg_right (by omega) (by decide))
  cases d with
  | give z n =>
    obtain ⟨hz, n1, n2⟩ := od
    have hj : zs.idxOf z < D.given.length := by
      rw [g.lg]
      exact List.idxOf_lt_length_of_mem hz
    have b' : Bd (doneD zs D (.give z n)) (k + 1) := by
      refine ⟨fun x hx => ?_, Nat.le_succ_of_le bd.my⟩
      rcases List.mem_or_eq_of_mem_set hx with hx | hx
      · exact mono x hx
      · obtain ⟨a, b⟩ := bd.gv (D.given.getD (zs.idxOf z) 0) (by
          rw [List.getD_eq_getElem?_getD, List.getElem?_eq_getElem hj]
          exact List.getElem_mem hj)
        have e : ((k + 1 : Nat) : Int) * 10 ^ 58 = (k : Int) * 10 ^ 58 + 10 ^ 58 := by
          rw [Int.natCast_add, Int.add_mul]
          rfl
        rw [hx, e]
        omega
    refine ⟨⟨g.nz, g.nt, g.fl, g.my, by show (D.given.set _ _).length = _; rw [List.length_set]; exact g.lg, g.lf, g.ln, fun j y ej => ?_⟩, ⟨fun x hx => ⟨(b'.gv x hx).1, le100 (b'.gv x hx).2⟩, gb.fw⟩, b'⟩
    have c0 := g.cs j y ej
    rw [cash_eq] at c0 ⊢
    unfold cashD at c0 ⊢
    show 0 ≤ (D.given.set (zs.idxOf z) (D.given.getD (zs.idxOf z) 0 + n)).getD j 0 - D.fallen.getD j 0 + sumsD D y
    by_cases e : j = zs.idxOf z
    · subst e
      have : (D.given.set (zs.idxOf z) (D.given.getD (zs.idxOf z) 0 + n)).getD (zs.idxOf z) 0 = D.given.getD (zs.idxOf z) 0 + n := getD_of (List.getElem?_set_self hj)
      rw [this]
      omega
    · have : (D.given.set (zs.idxOf z) (D.given.getD (zs.idxOf z) 0 + n)).getD j 0 = D.given.getD j 0 := by
        rw [List.getD_eq_getElem?_getD, List.getElem?_set_ne (fun z => e z.symm)]
        exact (List.getD_eq_getElem?_getD).symm
      rw [this]
      exact c0
  | put z y n =>
    obtain ⟨hz, hy, n1, n2⟩ := od
    have hj : zs.idxOf z < D.notes.length := by
      rw [g.ln]
      exact List.idxOf_lt_length_of_mem hz
    have hjf : zs.idxOf z < D.fallen.length := by
      rw [g.lf]
      exact List.idxOf_lt_length_of_mem hz
    have el := List.getElem?_eq_getElem hj
    have ef := List.getElem?_eq_getElem hjf
    have e0 : D.notes.getD (zs.idxOf z) [] = D.notes[zs.idxOf z] := getD_of el
    have b' : Bd (doneD zs D (.put z y n)) (k + 1) := by
      refine ⟨mono, ?_⟩
      have := sum_set D.notes (zs.idxOf z) (D.notes.getD (zs.idxOf z) [] ++ [(y, n)]) hj
      rw [List.length_append] at this
      have e1 : [(y, n)].length = 1 := rfl
      have := bd.my
      show ((D.notes.set _ _).map List.length).sum ≤ k + 1
      omega
    have hn1 : ∀ x ∈ D.notes[zs.idxOf z], 1 ≤ x.2 := fun x hx => (g.nt _ (List.getElem_mem hj) x hx).2.1
    have f0 := g.fl _ (List.getElem_mem hjf)
    have fw := gb.fw _ _ _ el ef
    have gs : goneN (D.notes.getD (zs.idxOf z) [] ++ [(y, n)]) D.fallen[zs.idxOf z] = goneN D.notes[zs.idxOf z] D.fallen[zs.idxOf z] := by
      rw [e0]
      exact gone_snoc n1 hn1 f0 fw
    have sm : ∀ q, sumsD (doneD zs D (.put z y n)) q = sumsD D q := fun q => by
      unfold sumsD
      congr 1
      have hl : (D.notes.set (zs.idxOf z) (D.notes.getD (zs.idxOf z) [] ++ [(y, n)])).length = D.notes.length := List.length_set
      refine List.ext_getElem (by show ((List.zip (D.notes.set _ _) D.fallen).map _).length = _; simp) fun i h1 h2 => ?_
      simp only [List.length_map, List.length_zip] at h2
      show (((D.notes.set (zs.idxOf z) (D.notes.getD (zs.idxOf z) [] ++ [(y, n)])).zip D.fallen).map fun p => sumTo q (goneN p.1 p.2))[i]'(by simp; omega) = _
      simp only [List.getElem_map, List.getElem_zip]
      by_cases e : i = zs.idxOf z
      · subst e
        rw [List.getElem_set_self]
        exact congrArg (sumTo q) gs
      · rw [List.getElem_set_ne (fun z => e z.symm)]
    refine ⟨⟨g.nz, fun l hl m hm => ?_, g.fl, Nat.le_trans b'.my hk, g.lg, g.lf, by show (D.notes.set _ _).length = _; rw [List.length_set]; exact g.ln, fun j q ej => ?_⟩, ⟨fun x hx => ⟨(b'.gv x hx).1, le100 (b'.gv x hx).2⟩, fun j l f e1 e2 => ?_⟩, b'⟩
    · rcases List.mem_or_eq_of_mem_set hl with hl | hl
      · exact g.nt l hl m hm
      · rw [hl] at hm
        rcases List.mem_append.mp hm with hm | hm
        · rw [e0] at hm
          exact g.nt _ (List.getElem_mem hj) m hm
        · rw [List.mem_singleton.mp hm]
          exact ⟨hy, n1, n2⟩
    · have c0 := g.cs j q ej
      rw [cash_eq] at c0 ⊢
      unfold cashD at c0 ⊢
      rw [sm]
      exact c0
    · have e1' : (D.notes.set (zs.idxOf z) (D.notes.getD (zs.idxOf z) [] ++ [(y, n)]))[j]? = some l := e1
      have e2' : D.fallen[j]? = some f := e2
      by_cases e : j = zs.idxOf z
      · subst e
        rw [List.getElem?_set_self hj, e0] at e1'
        rw [ef] at e2'
        cases e1'
        cases e2'
        rw [whole_snoc]
        have : 1 ≤ n := n1
        show _ ≤ _ + n
        omega
      · rw [List.getElem?_set_ne (fun z => e z.symm)] at e1'
        exact gb.fw j l f e1' e2'
end Rc

set_option pp.maxSteps 900
namespace Rc
open PySem PySem.Spec PyProof.Rows L2 RZ
section
variable {P : Program} {w : World} {K : PySem.W.Frag} {mg : Str → Option Value} {base : Heap}
/-! ### all_rings -/
abbrev sArs : Stmt := topS 16
theorem scArs : FnScope ["book"] ["book"] (defScope sArs) := ⟨rfl, rfl, rfl, by decide +kernel, rfl, by decide +kernel, by decide +kernel⟩
def spArs (K : PySem.W.Frag) (C : Addr) : Sp := fun vs H Q _ => ∃ (b : Addr) (M : Bk), vs = [.ref b] ∧ BookAt K C H b M ∧ M.Ok ∧ Closed M ∧ ∀ r as H', Same H H' → H r = none → H' r = some (.lst (List.map V.ref as)) → RingsAt H H' r as (ringsM M.names (nxM M) M.names) → Q (.ref r) H'
theorem ok_ars {f f1 f2 C : Addr} {fd fd1 fd2 : FuncData} (F : Fun K "all_rings" "all_rings" sArs f fd) (AD : Has P w K mg base 7 "all_dues" ["book"] (spDues K C) f1 fd1) (RS : Has P w K mg base 3 "rings_by" ["dues"] (spRgS K) f2 fd2) : FnOk P w K mg base CX0 8 f fd ["book"] (spArs K C) := by
  refine F.ok scArs (fun vs H Q E h => ?_) (fun cdv A outer s H vs Q E hr h => ?_)
  · obtain ⟨_, _, rfl, _⟩ := h
    rfl
  · obtain ⟨b, M, rfl, hb, ok, cl, q⟩ := h
    have hr3 := hr.mono (show 3 ≤ 7 by decide)
    refine ⟨_, pss_one (ps_ret (pe_call RS.ok hr3 (by rfl) RS.g RS.kp RS.b .nil pass0 (pa_cons (pe_call AD.ok hr (by rfl) AD.g AD.kp AD.b .nil pass0 (pa_cons (pv 0) pa_nil)) pa_nil))), ?_⟩
    refine ⟨.ref b, rfl, b, M, rfl, hb, ok, fun d H1 s1 nd hd => ?_⟩
    refine ⟨d, M.names, duesM M, rfl, hd, walks_of ok cl, fun r as H2 s2 nr hr' ra => ?_⟩
    refine q r as H2 (s1.trans s2) (s1.free nr) hr' ?_
    unfold RingsAt at ra ⊢
    have key : ∀ (as : List Addr) (rs : List (List Str)), Paired (fun a x => H1 a = none ∧ a ≠ r ∧ H2 a = some (.lst (x.map V.str))) as rs → Paired (fun a x => H a = none ∧ a ≠ r ∧ H2 a = some (.lst (x.map V.str))) as rs := fun as rs h => by
      induction h with
      | nil => exact .nil
      | cons a b ih => exact .cons ⟨s1.free a.1, a.2.1, a.2.2⟩ ih
    exact key _ _ ra
end
end Rc

namespace Rc
open PySem PySem.Spec PyProof.Rows L2 RZ
/-! ### all rings, each of whose persons tells the same one -/
theorem first_in {zs T : List Str} {f : Str} (nd : zs.Nodup) (h : ∃ y ∈ T, y ∈ zs) (e : firstM zs T = f) : f ∈ T ∧ f ∈ zs ∧ ∀ y ∈ T, zs.idxOf f ≤ zs.idxOf y := by
  obtain ⟨y0, h1, h2⟩ := h
  obtain ⟨f', r, _, ef, fT, fz⟩ := find_some h2 h1
  rw [e] at ef
  subst ef
  refine ⟨fT, fz, fun y hy => Decidable.byContradiction fun c => ?_⟩
  have hl : zs.idxOf y < zs.length := by
    have := List.idxOf_lt_length_of_mem fz
    omega
  have hyz : y ∈ zs := List.idxOf_lt_length_iff.mp hl
  have ex : (zs.find? fun x => decide (x ∈ T)) = some f := by
    cases q : zs.find? fun x => decide (x ∈ T) with
    | none =>
      have := List.find?_eq_none.mp q y hyz
      simp [hy] at this
    | some g =>
      unfold firstM at e
      rw [q] at e
      exact congrArg some e
  obtain ⟨_, j, hj, ej, hjm⟩ := List.find?_eq_some_iff_getElem.mp ex
  have : zs.idxOf f = j := by rw [← ej]; exact nd.idxOf_getElem j hj
  have h3 := hjm (zs.idxOf y) (by omega)
  rw [show zs[zs.idxOf y] = y from List.getElem_idxOf hl] at h3
  simp [hy] at h3
/-- how a ring stands -/
structure RingN (zs : List Str) (nx : Str → Option Str) (r : List Str) (f : Str) : Prop where
  fz : f ∈ zs
  tr : trailM zs nx f = r
  rn : Round nx r
  nd : r.Nodup
  l0 : 0 < r.length
  r0 : rd r 0 = f
  fr : firstM zs r = f
  sub : ∀ y ∈ r, y ∈ zs
theorem ring_nf {zs : List Str} {nx : Str → Option Str} {z : Str} {r : List Str} (ld : Leads zs nx) (hz : z ∈ zs) (h : ringM zs nx z = some r) : ∃ f, RingN zs nx r f ∧ r.Perm (trailM zs nx z) := by
  have en := trail_ended ld hz
  have hzT : z ∈ trailM zs nx z := by
    obtain ⟨tl, eT⟩ := en.first
    rw [eT]
    exact List.mem_cons_self
  have hround := ring_round ld hz h
  have nT := en.nd
  have sub := en.sub
  obtain ⟨f, rs, _, ef, fT, fz⟩ := find_some hz hzT
  unfold ringM at h
  split at h
  · have e := Option.some.inj h
    rw [ef] at e
    generalize trailM zs nx z = T at hzT hround nT sub ef fT e
    generalize hk : T.idxOf f = k at e
    have hkl : k < T.length := hk ▸ List.idxOf_lt_length_of_mem fT
    have hkf : T[k]? = some f := hk ▸ idx_get fT
    have pm : (T.drop k ++ T.take k).Perm T := by
      have := List.perm_append_comm (l₁ := T.drop k) (l₂ := T.take k)
      rw [List.take_append_drop] at this
      exact this
    have r0 : rd (T.drop k ++ T.take k) 0 = f := by
      rw [rot_rd hkl]
      have := rd_at hkl
      rw [hkf] at this
      exact (Option.some.inj this).symm
    have hr2 : Round nx (T.drop k ++ T.take k) := fun i => by
      rw [rot_rd hkl, rot_rd hkl]
      exact hround (k + i)
    have nd2 : (T.drop k ++ T.take k).Nodup := pm.symm.nodup nT
    have l0 : 0 < (T.drop k ++ T.take k).length := by
      rw [pm.length_eq]
      omega
    have et := round_trail ld nd2 l0 (by rw [r0]; exact fz) hr2
    rw [r0] at et
    rw [e] at pm r0 hr2 nd2 l0 et
    refine ⟨f, ⟨fz, et, hr2, nd2, l0, r0, ?_, fun y hy => sub y (pm.mem_iff.mp hy)⟩, pm⟩
    rw [← ef]
    unfold firstM
    congr 2
    funext x
    exact decide_eq_decide.mpr pm.mem_iff
  · cases h
theorem RingN.head {zs : List Str} {nx : Str → Option Str} {r : List Str} {f : Str} (h : RingN zs nx r f) : r.head? = some f := by
  have := rd_at h.l0
  rw [h.r0] at this
  rw [List.head?_eq_getElem?]
  exact this
theorem RingN.mem {zs : List Str} {nx : Str → Option Str} {r : List Str} {f : Str} (h : RingN zs nx r f) : f ∈ r := List.mem_of_mem_head? h.head
/-- each of a ring tells it -/
theorem ring_all {zs : List Str} {nx : Str → Option Str} {r : List Str} {f y : Str} (ld : Leads zs nx) (h : RingN zs nx r f) (hy : y ∈ r) : ringM zs nx y = some r := by
  generalize hk : r.idxOf y = k
  have hkl : k < r.length := hk ▸ List.idxOf_lt_length_of_mem hy
  have hky : r[k]? = some y := hk ▸ idx_get hy
  have hyz := h.sub y hy
  have pm : (r.drop k ++ r.take k).Perm r := by
    have := List.perm_append_comm (l₁ := r.drop k) (l₂ := r.take k)
    rw [List.take_append_drop] at this
    exact this
  have r0 : rd (r.drop k ++ r.take k) 0 = y := by
    rw [rot_rd hkl]
    have := rd_at hkl
    rw [hky] at this
    exact (Option.some.inj this).symm
  have hr2 : Round nx (r.drop k ++ r.take k) := fun i => by
    rw [rot_rd hkl, rot_rd hkl]
    exact h.rn (k + i)
  have nd2 : (r.drop k ++ r.take k).Nodup := pm.symm.nodup h.nd
  have l0 : 0 < (r.drop k ++ r.take k).length := by
    rw [pm.length_eq]
    omega
  have et := round_trail ld nd2 l0 (by rw [r0]; exact hyz) hr2
  obtain ⟨r2, hR2⟩ := round_ring ld nd2 l0 (by rw [r0]; exact hyz) hr2
  rw [r0] at et hR2
  obtain ⟨f2, n2, p2⟩ := ring_nf ld hyz hR2
  rw [et] at p2
  have pr := p2.trans pm
  have ff : f2 = f := by
    rw [← n2.fr, ← h.fr]
    unfold firstM
    congr 2
    funext x
    exact decide_eq_decide.mpr pr.mem_iff
  rw [hR2, ← n2.tr, ff, h.tr]
/-- whose due notes lead back to them, is in a ring: so it is told -/
theorem ringAt_nf {zs : List Str} {nx : Str → Option Str} {z : Str} {r : List Str} (ld : Leads zs nx) (hz : z ∈ zs) (h : ringAt zs nx z = some r) : RingN zs nx r z := by
  unfold ringAt at h
  cases hR : ringM zs nx z with
  | none => rw [hR] at h; cases h
  | some rr =>
    rw [hR] at h
    have h : (if rr.head? = some z then some rr else none) = some r := h
    split at h
    · rename_i hh
      cases h
      obtain ⟨f, n, _⟩ := ring_nf ld hz hR
      rw [n.head] at hh
      cases hh
      exact n
    · cases h
theorem RingN.at_ {zs : List Str} {nx : Str → Option Str} {r : List Str} {f : Str} (ld : Leads zs nx) (h : RingN zs nx r f) : ringAt zs nx f = some r := by
  unfold ringAt
  rw [ring_all ld h h.mem]
  show (if r.head? = some f then some r else none) = some r
  rw [if_pos h.head]
theorem rings_nf {zs : List Str} {nx : Str → Option Str} {x : List Str} (ld : Leads zs nx) (h : x ∈ ringsM zs nx zs) : ∃ f, RingN zs nx x f := by
  obtain ⟨y, hy, ey⟩ := List.mem_filterMap.mp h
  exact ⟨y, ringAt_nf ld hy ey⟩
theorem rings_has {zs : List Str} {nx : Str → Option Str} {x : List Str} {f : Str} (ld : Leads zs nx) (h : RingN zs nx x f) : x ∈ ringsM zs nx zs := List.mem_filterMap.mpr ⟨f, h.fz, h.at_ ld⟩
theorem idx_asc {zs : List Str} (nd : zs.Nodup) : zs.Pairwise fun a b => zs.idxOf a < zs.idxOf b := by
  rw [List.pairwise_iff_getElem]
  intro i j hi hj hij
  rw [nd.idxOf_getElem i hi, nd.idxOf_getElem j hj]
  exact hij
/-- the rings stand by their first persons in order -/
theorem rings_asc {zs : List Str} {nx : Str → Option Str} (ld : Leads zs nx) (nd : zs.Nodup) : (ringsM zs nx zs).Pairwise fun a b => ∀ f g, RingN zs nx a f → RingN zs nx b g → zs.idxOf f < zs.idxOf g := by
  unfold ringsM
  refine List.Pairwise.filterMap _ (S := fun a b => ∀ f g, RingN zs nx a f → RingN zs nx b g → zs.idxOf f < zs.idxOf g) (fun a a' hlt b hb b' hb' => ?_) ((idx_asc nd).imp_of_mem fun ha hb hlt => (⟨ha, hb, hlt⟩ : _ ∈ zs ∧ _ ∈ zs ∧ zs.idxOf _ < zs.idxOf _))
  intro f g hf hg
  have n1 := ringAt_nf ld hlt.1 hb
  have n2 := ringAt_nf ld hlt.2.1 hb'
  have e1 := hf.head
  have e2 := hg.head
  rw [n1.head] at e1
  rw [n2.head] at e2
  cases e1
  cases e2
  exact hlt.2.2
theorem rings_flat {zs : List Str} {nx : Str → Option Str} (ld : Leads zs nx) (nd : zs.Nodup) : (ringsM zs nx zs).flatten.Perm (zs.filter fun z => (ringM zs nx z).isSome) := by
  have n1 : (ringsM zs nx zs).flatten.Nodup := by
    unfold List.Nodup
    rw [List.pairwise_flatten]
    refine ⟨fun x hx => ?_, (rings_asc ld nd).imp_of_mem fun {a b} ha hb h => ?_⟩
    · obtain ⟨f, n⟩ := rings_nf ld hx
      exact n.nd
    · obtain ⟨f, nf⟩ := rings_nf ld ha
      obtain ⟨g, ng⟩ := rings_nf ld hb
      intro y hy y' hy' e
      have h1 := ring_all ld nf hy
      rw [e, ring_all ld ng hy'] at h1
      cases h1
      have := h g g ng ng
      omega
  refine (List.perm_ext_iff_of_nodup n1 (nd.filter _)).mpr fun y => ⟨fun hy => ?_, fun hy => ?_⟩
  · obtain ⟨x, hx, hyx⟩ := List.mem_flatten.mp hy
    obtain ⟨f, n⟩ := rings_nf ld hx
    refine List.mem_filter.mpr ⟨n.sub y hyx, ?_⟩
    rw [ring_all ld n hyx]
    rfl
  · obtain ⟨h1, h2⟩ := List.mem_filter.mp hy
    cases hR : ringM zs nx y with
    | none => rw [hR] at h2; cases h2
    | some r =>
      obtain ⟨f, n, p⟩ := ring_nf ld h1 hR
      refine List.mem_flatten.mpr ⟨r, rings_has ld n, p.mem_iff.mpr ?_⟩
      obtain ⟨tl, eT⟩ := (trail_ended ld h1).first
      rw [eT]
      exact List.mem_cons_self
/-- the rings that somebody is in -/
theorem rings_of {zs : List Str} {nx : Str → Option Str} (ld : Leads zs nx) {z : Str} (hz : z ∈ zs) : ((ringsM zs nx zs).filter fun x => decide (z ∈ x)).head? = ringM zs nx z := by
  cases hR : ringM zs nx z with
  | none =>
    have e : (ringsM zs nx zs).filter (fun x => decide (z ∈ x)) = [] := by
      rw [List.filter_eq_nil_iff]
      intro x hx c
      obtain ⟨f, n⟩ := rings_nf ld hx
      rw [ring_all ld n (of_decide_eq_true c)] at hR
      cases hR
    rw [e]
    rfl
  | some r =>
    obtain ⟨f, n, p⟩ := ring_nf ld hz hR
    have hzr : z ∈ r := by
      refine p.mem_iff.mpr ?_
      obtain ⟨tl, eT⟩ := (trail_ended ld hz).first
      rw [eT]
      exact List.mem_cons_self
    have hm : r ∈ (ringsM zs nx zs).filter fun x => decide (z ∈ x) := List.mem_filter.mpr ⟨rings_has ld n, decide_eq_true hzr⟩
    cases e : (ringsM zs nx zs).filter fun x => decide (z ∈ x) with
    | nil => rw [e] at hm; cases hm
    | cons x l =>
      have hx : x ∈ (ringsM zs nx zs).filter fun x => decide (z ∈ x) := by rw [e]; exact List.mem_cons_self
      obtain ⟨h1, h2⟩ := List.mem_filter.mp hx
      obtain ⟨g, n2⟩ := rings_nf ld h1
      have h3 := ring_all ld n2 (of_decide_eq_true h2)
      rw [hR] at h3
      cases h3
      rfl
/-- to whom each of a ring leads -/
theorem RingN.next {zs : List Str} {nx : Str → Option Str} {r : List Str} {f : Str} (h : RingN zs nx r f) : r.map nx = (r.drop 1 ++ r.take 1).map some := by
  have l0 := h.l0
  refine List.ext_getElem? fun i => ?_
  rw [List.getElem?_map, List.getElem?_map]
  have ll : (r.drop 1 ++ r.take 1).length = r.length := by
    rw [List.length_append, List.length_drop, List.length_take]
    omega
  by_cases hi : i < r.length
  · rw [rd_at hi]
    show some (nx (rd r i)) = _
    rw [h.rn i]
    by_cases h2 : i + 1 < r.length
    · rw [List.getElem?_append_left (by rw [List.length_drop]; omega), List.getElem?_drop, show 1 + i = i + 1 by omega, rd_at h2]
      rfl
    · have e : i + 1 = r.length := by omega
      rw [List.getElem?_append_right (by rw [List.length_drop]; omega), List.length_drop, List.getElem?_take, if_pos (by omega), show i - (r.length - 1) = 0 by omega, rd_at l0]
      show some (some (rd r (i + 1))) = some (some (rd r 0))
      unfold rd
      rw [e, Nat.mod_self, Nat.zero_mod]
  · rw [List.getElem?_eq_none (by omega), List.getElem?_eq_none (by omega)]
    rfl
/-! ### a walk that stops where it began -/
def stepN (nx : Str → Option Str) (z : Str) : Option Str → Option Str
  | none => none
  | some y => if y = z then some y else nx y
def walkN (nx : Str → Option Str) (z : Str) : Nat → Option Str
  | 0 => nx z
  | k + 1 => stepN nx z (walkN nx z k)
theorem walk_back {zs : List Str} {nx : Str → Option Str} {z : Str} (ld : Leads zs nx) (hz : z ∈ zs) {k : Nat} (hk : (trailM zs nx z).length ≤ k + 1) : decide (walkN nx z k = some z) = (ringM zs nx z).isSome := by
  have en := trail_ended ld hz
  have ch := trailM_chain zs nx z
  obtain ⟨tl, eT⟩ := en.first
  obtain ⟨ini, l, eT2, ed⟩ := en.last
  have eL := lastM_eq eT2
  cases hR : ringM zs nx z with
  | none =>
    refine decide_eq_false ?_
    have hl : nx (lastM zs nx z) ≠ some z := fun c => by
      unfold ringM at hR
      rw [if_pos c] at hR
      cases hR
    -- nobody of the trail leads to z
    have no : ∀ y ∈ trailM zs nx z, nx y ≠ some z ∧ ∀ x, nx y = some x → x ∈ trailM zs nx z := fun y hy => by
      obtain ⟨i, hi, e⟩ := List.getElem_of_mem hy
      have ei : (trailM zs nx z)[i]? = some y := by rw [List.getElem?_eq_getElem hi, e]
      by_cases h1 : i + 1 < (trailM zs nx z).length
      · have h2 := ch i _ _ ei (List.getElem?_eq_getElem h1)
        refine ⟨fun c => ?_, fun x hx => ?_⟩
        · rw [h2] at c
          have h3 : (trailM zs nx z)[0]? = some z := by rw [eT]; rfl
          have h4 : (trailM zs nx z)[i + 1]? = some z := by rw [List.getElem?_eq_getElem h1]; exact c
          have := (List.getElem?_inj h1 en.nd).mp (h4.trans h3.symm)
          omega
        · rw [h2] at hx
          cases hx
          exact List.getElem_mem h1
      · have : y = l := by
          have ll : (trailM zs nx z).length = ini.length + 1 := by rw [eT2, List.length_append]; rfl
          have ei2 : i = ini.length := by omega
          rw [eT2, ei2, List.getElem?_append_right (Nat.le_refl _), Nat.sub_self] at ei
          exact (Option.some.inj ei).symm
        rw [this, ← eL]
        exact ⟨hl, fun x hx => en.back x hx⟩
    have go : ∀ k, walkN nx z k = none ∨ ∃ y, walkN nx z k = some y ∧ y ≠ z ∧ y ∈ trailM zs nx z := fun k => by
      have st : ∀ y ∈ trailM zs nx z, nx y = none ∨ ∃ x, nx y = some x ∧ x ≠ z ∧ x ∈ trailM zs nx z := fun y hy => by
        obtain ⟨a, b⟩ := no y hy
        cases e : nx y with
        | none => exact .inl rfl
        | some x => exact .inr ⟨x, rfl, (fun c => a (by rw [e, c])), b x e⟩
      induction k with
      | zero => exact st z (by rw [eT]; exact List.mem_cons_self)
      | succ k ih =>
        show stepN nx z (walkN nx z k) = none ∨ _
        rcases ih with e | ⟨y, e, ne, hy⟩
        · left
          rw [e]
          rfl
        · have : walkN nx z (k + 1) = nx y := by
            show stepN nx z (walkN nx z k) = _
            rw [e]
            show (if y = z then some y else nx y) = _
            rw [if_neg ne]
          show walkN nx z (k + 1) = none ∨ _
          rw [this]
          exact st y hy
    intro c
    rcases go k with e | ⟨y, e, ne, _⟩
    · rw [c] at e
      cases e
    · rw [c] at e
      cases e
      exact ne rfl
  | some r =>
    refine decide_eq_true ?_
    have hr := ring_round ld hz hR
    have l0 : 0 < (trailM zs nx z).length := by rw [eT, List.length_cons]; omega
    have r0 : rd (trailM zs nx z) 0 = z := by
      have := rd_at l0
      rw [eT] at this ⊢
      exact (Option.some.inj this).symm
    have go : ∀ k, (k + 1 < (trailM zs nx z).length → walkN nx z k = some (rd (trailM zs nx z) (k + 1))) ∧ ((trailM zs nx z).length ≤ k + 1 → walkN nx z k = some z) := fun k => by
      have wrap : ∀ j, j = (trailM zs nx z).length → rd (trailM zs nx z) j = z := fun j e => by
        refine Eq.trans ?_ r0
        unfold rd
        rw [e, Nat.mod_self, Nat.zero_mod]
      induction k with
      | zero =>
        have e : walkN nx z 0 = some (rd (trailM zs nx z) 1) := by
          show nx z = _
          have := hr 0
          rw [r0] at this
          exact this
        refine ⟨fun _ => e, fun h => ?_⟩
        rw [e, wrap 1 (by omega)]
      | succ k ih =>
        by_cases h1 : k + 1 < (trailM zs nx z).length
        · have e := ih.1 h1
          have ne : rd (trailM zs nx z) (k + 1) ≠ z := fun c => by
            have h3 := rd_at h1
            have h4 := rd_at l0
            rw [c] at h3
            rw [r0] at h4
            have := (List.getElem?_inj h1 en.nd).mp (h3.trans h4.symm)
            omega
          have e2 : walkN nx z (k + 1) = some (rd (trailM zs nx z) (k + 1 + 1)) := by
            show stepN nx z (walkN nx z k) = _
            rw [e]
            show (if rd (trailM zs nx z) (k + 1) = z then some (rd (trailM zs nx z) (k + 1)) else nx (rd (trailM zs nx z) (k + 1))) = _
            rw [if_neg ne, hr]
          refine ⟨fun _ => e2, fun h => ?_⟩
          rw [e2, wrap _ (by omega)]
        · have e := ih.2 (by omega)
          refine ⟨fun h => by omega, fun _ => ?_⟩
          show stepN nx z (walkN nx z k) = _
          rw [e]
          show (if z = z then some z else nx z) = _
          rw [if_pos rfl]
    exact (go k).2 hk
end Rc

set_option pp.maxSteps 700
namespace Rc
open PySem PySem.Spec PyProof.Rows L2 RZ
/-! ### what falls of one person's notes, covered by their cash -/
theorem whole_left34 : ∀ {l : List (Str × Int)} {f : Int}, (∀ n ∈ l, 1 ≤ n.2) → 0 ≤ f → f ≤ wholeN l → wholeN (leftN l f) = wholeN l - f
  | [], f, _, f0, fw => by
    have e : wholeN [] = 0 := rfl
    rw [e] at fw
    show wholeN [] = wholeN [] - f
    rw [e]
    omega
  | (t, a) :: r, f, h, f0, fw => by
    have ha : 1 ≤ a := h (t, a) List.mem_cons_self
    obtain ⟨p1, p2⟩ := part_nonneg ha f0
    have w0 := wholeN_nonneg (l := r) fun n hn => h n (List.mem_cons_of_mem _ hn)
    rw [wholeN_cons] at fw ⊢
    have fw' : f ≤ a + wholeN r := fw
    have pf : f - partOf a f ≤ wholeN r ∧ partOf a f ≤ a := by
      unfold partOf
      split <;> omega
    have ih := whole_left34 (l := r) (f := f - partOf a f) (fun n hn => h n (List.mem_cons_of_mem _ hn)) p2 pf.1
    rw [leftN_cons]
    show wholeN _ = a + wholeN r - f
    split
    · have : wholeN ([(t, a - partOf a f)] ++ leftN r (f - partOf a f)) = (a - partOf a f) + wholeN (leftN r (f - partOf a f)) := wholeN_cons _ _
      rw [this, ih]
      omega
    · rw [List.nil_append, ih]
      omega
theorem zip_le34 {h : List (Str × Int) × Int → Int} : ∀ {A : List (List (Str × Int))} {F G : List Int}, F.length = G.length → (∀ (i : Nat) (l : List (Str × Int)) (f g : Int), A[i]? = some l → F[i]? = some f → G[i]? = some g → h (l, f) ≤ h (l, g)) → ((A.zip F).map h).sum ≤ ((A.zip G).map h).sum
  | [], F, G, _, _ => by simp
  | a :: A, [], [], _, _ => by simp
  | a :: A, [], _ :: _, e, _ => by cases e
  | a :: A, _ :: _, [], e, _ => by cases e
  | a :: A, f :: F, g :: G, e, k => by
    have h1 := k 0 a f g rfl rfl rfl
    have h2 := zip_le34 (h := h) (A := A) (F := F) (G := G) (by simpa using e) (fun i l x y hl hx hy => k (i + 1) l x y (by simpa using hl) (by simpa using hx) (by simpa using hy))
    simp only [List.zip_cons_cons, List.map_cons, List.sum_cons]
    omega
theorem drop_ok {zs : List Str} {D : Md} {k : Nat} {z : Str} {m f : Int} {l : List (Str × Int)} (g : Gs zs D) (gb : Gb D) (bd : Bd D k) (hz : z ∈ zs) (el : D.notes[zs.idxOf z]? = some l) (ef : D.fallen[zs.idxOf z]? = some f) (m1 : 1 ≤ m) (mw : m ≤ wholeN (leftN l f)) (mc : m ≤ cashM (bkOf zs D) (zs.idxOf z) z) :
    Gs zs (fellD D (zs.idxOf z) (f + m)) ∧ Gb (fellD D (zs.idxOf z) (f + m)) ∧ Bd (fellD D (zs.idxOf z) (f + m)) k ∧ FallOk (bkOf zs D) [(z, m)] ∧ fallM (bkOf zs D) [(z, m)] = bkOf zs (fellD D (zs.idxOf z) (f + m)) := by
  have nr : [z].Nodup := by simp
  have sub : ∀ y ∈ [z], y ∈ zs := fun y hy => by rw [List.mem_singleton.mp hy]; exact hz
  have hj : zs.idxOf z < D.fallen.length := (List.getElem?_eq_some_iff.mp ef).1
  have f0 := g.fl f (List.mem_of_getElem? ef)
  have fw := gb.fw _ l f el ef
  rw [whole_left34 (fun n hn => (g.nt l (List.mem_of_getElem? el) n hn).2.1) f0 fw] at mw
  have eA : fallAll zs D [z] m = fellD D (zs.idxOf z) (f + m) := by
    rw [fallAll_cons, getD_of ef]
    rfl
  have eM : fallM (bkOf zs D) [(z, m)] = bkOf zs (fellD D (zs.idxOf z) (f + m)) := by
    rw [← eA]
    exact fallAll_eq g.nz.nd g.lf nr sub
  have fl' : ∀ x ∈ (fellD D (zs.idxOf z) (f + m)).fallen, 0 ≤ x := fun x hx => by
    rcases List.mem_or_eq_of_mem_set hx with hx | hx
    · exact g.fl x hx
    · omega
  have lf' : (fellD D (zs.idxOf z) (f + m)).fallen.length = zs.length := by
    show (D.fallen.set _ _).length = _
    rw [List.length_set]
    exact g.lf
  have cs : ∀ (i : Nat) (y : Str), zs[i]? = some y → 0 ≤ cashM (bkOf zs (fellD D (zs.idxOf z) (f + m))) i y := fun i y ei => by
    have c0 := g.cs i y ei
    have ft : fallTo (bkOf zs D) y ≤ fallTo (bkOf zs (fellD D (zs.idxOf z) (f + m))) y := by
      show ((D.notes.zip D.fallen).map fun p => sumTo y (goneN p.1 p.2)).sum ≤ ((D.notes.zip (D.fallen.set (zs.idxOf z) (f + m))).map fun p => sumTo y (goneN p.1 p.2)).sum
      refine zip_le34 (h := fun p => sumTo y (goneN p.1 p.2)) (by rw [List.length_set]) fun i l a b hl ha hb => ?_
      refine gone_mono y (fun n hn => (g.nt l (List.mem_of_getElem? hl) n hn).2.1) (g.fl a (List.mem_of_getElem? ha)) ?_
      by_cases hi : zs.idxOf z = i
      · subst hi
        rw [List.getElem?_set_self hj] at hb
        rw [ef] at ha
        cases ha
        cases hb
        omega
      · rw [List.getElem?_set_ne hi, ha] at hb
        cases hb
        exact Int.le_refl _
    unfold cashM at c0 mc ⊢
    have c0 : 0 ≤ D.given.getD i 0 + fallTo (bkOf zs D) y - D.fallen.getD i 0 := c0
    have mc : m ≤ D.given.getD (zs.idxOf z) 0 + fallTo (bkOf zs D) z - D.fallen.getD (zs.idxOf z) 0 := mc
    show 0 ≤ D.given.getD i 0 + fallTo (bkOf zs (fellD D (zs.idxOf z) (f + m))) y - (D.fallen.set (zs.idxOf z) (f + m)).getD i 0
    by_cases hi : zs.idxOf z = i
    · subst hi
      have ey : y = z := Option.some.inj (ei.symm.trans (idx_get hz))
      subst ey
      rw [getD_of (List.getElem?_set_self hj)]
      rw [getD_of ef] at mc
      omega
    · have : (D.fallen.set (zs.idxOf z) (f + m)).getD i 0 = D.fallen.getD i 0 := by
        rw [List.getD_eq_getElem?_getD, List.getElem?_set_ne hi]
        exact (List.getD_eq_getElem?_getD).symm
      rw [this]
      omega
  refine ⟨⟨g.nz, g.nt, fl', g.my, g.lg, lf', g.ln, cs⟩, ⟨gb.gv, fun i l' f' el' ef' => ?_⟩, ⟨bd.gv, bd.my⟩, ⟨fun q hq => ?_, fun i y ei => ?_⟩, eM⟩
  · by_cases hi : zs.idxOf z = i
    · subst hi
      have ef' : (D.fallen.set (zs.idxOf z) (f + m))[zs.idxOf z]? = some f' := ef'
      rw [List.getElem?_set_self hj] at ef'
      have el' : D.notes[zs.idxOf z]? = some l' := el'
      rw [el] at el'
      cases el'
      cases ef'
      omega
    · have ef' : (D.fallen.set (zs.idxOf z) (f + m))[i]? = some f' := ef'
      rw [List.getElem?_set_ne hi] at ef'
      exact gb.fw i l' f' el' ef'
  · rw [List.mem_singleton.mp hq]
    exact ⟨_, l, f, idx_get hz, el, ef, by show (0 : Int) ≤ m; omega, by show f + m ≤ wholeN l; omega⟩
  · rw [eM]
    exact cs i y ei
/-! ### what stands -/
def BtM (p : Addr) (m : MdA) (H H' : Hp) : Prop := ∀ c o, c ≠ p → ¬ m.Has c → H c = some o → H' c = some o
theorem BtM.refl {p : Addr} {m : MdA} {H : Hp} : BtM p m H H := fun _ _ _ _ e => e
theorem BtM.trans {p : Addr} {m : MdA} {H H1 H2 : Hp} (a : BtM p m H H1) (b : BtM p m H1 H2) : BtM p m H H2 := fun c o n h e => b c o n h (a c o n h e)
theorem BtM.same {p : Addr} {m : MdA} {H H1 H2 : Hp} (a : BtM p m H H1) (b : Same H1 H2) : BtM p m H H2 := fun c o n h e => b c o (a c o n h e)
theorem BtM.but {p : Addr} {m : MdA} {H H1 H2 : Hp} (a : BtM p m H H1) (b : But p H1 H2) : BtM p m H H2 := fun c o n h e => b c o n (a c o n h e)
theorem MdA.Foot.inn {m : MdA} {c : Addr} (h : m.Foot c) : m.Has c := h.has
theorem BtM.butF {p : Addr} {m : MdA} {H H1 H2 : Hp} (a : BtM p m H H1) (b : ButF m H1 H2) : BtM p m H H2 := fun c o n h e => b c o (fun f => h f.has) (a c o n h e)
structure S34 (K : PySem.W.Frag) (C : Addr) (H : Hp) (p : Addr) (m : MdA) (b : Addr) (zs : List Str) (D : Md) (k : Nat) : Prop where
  pot : Pot H p
  mod : ModelAt K H zs m D
  bk : BookAt K C H b (bkOf zs D)
  g : Gs zs D
  gb : Gb D
  bd : Bd D k
  np : ¬ m.Has p
section
variable {K : PySem.W.Frag} {C p b : Addr} {H H' : Hp} {m : MdA} {zs : List Str} {D : Md} {k : Nat}
theorem S34.same (h : S34 K C H p m b zs D k) (s : Same H H') : S34 K C H' p m b zs D k := ⟨h.pot.same s, model_same h.mod s, book_same h.bk s, h.g, h.gb, h.bd, h.np⟩
theorem S34.draw (h : S34 K C H p m b zs D k) (hp : Pot H' p) (s : But p H H') : S34 K C H' p m b zs D k := ⟨hp, model_but h.mod s h.pot h.np, h.bk.keep (s.kpP h.pot), h.g, h.gb, h.bd, h.np⟩
theorem S34.up {j : Nat} (h : S34 K C H p m b zs D k) (l : k ≤ j) : S34 K C H p m b zs D j := ⟨h.pot, h.mod, h.bk, h.g, h.gb, ⟨fun x hx => ⟨(h.bd.gv x hx).1, Int.le_trans (h.bd.gv x hx).2 (Int.mul_le_mul_of_nonneg_right (by omega) (by decide))⟩, Nat.le_trans h.bd.my l⟩, h.np⟩
end
section
variable {P : Program} {w : World} {K : PySem.W.Frag} {mg : Str → Option Value} {base : Heap}
/-! ### _law_noted -/
abbrev sLNt : Stmt := topS 42
abbrev nLNt : List Str := ["_law_pot_here", "_law_size", "_law_names_here", "_law_model_here", "_law_book", "_law_who", "_law_k", "_law_note"]
theorem scLNt : FnScope nLNt ["_law_pot_here"] (defScope sLNt) := ⟨rfl, rfl, rfl, by decide +kernel, rfl, by decide +kernel, by decide +kernel⟩
def spLNt (K : PySem.W.Frag) (C : Addr) : Sp := fun vs H Q _ => ∃ (p : Addr), vs = [.ref p] ∧ Pot H p ∧ ∀ zs m D b T H', H' T = some (.tup [.ref (MdA.m m), .ref b]) → S34 K C H' p m b zs D 36 → But p H H' → (∀ c, m.Has c → H c = none) → Q (.ref T) H'
set_option maxHeartbeats 1000000 in
theorem ok_lnt {f fT fA f1 f2 f3 f4 fI C : Addr} {fd fdT fdA fd1 fd2 fd3 fd4 fdI : FuncData} (F : Fun K "_law_noted" "_law_noted" sLNt f fd) (B : Blt mg) (B2 : Blt2 mg) (T : ClsF K C) (TK : HasTake P w K mg base fT fdT) (AM : HasAmong P w K mg base fA fdA)
    (LN : Has P w K mg base 3 "_law_names" ["_law_pot_here", "_law_many"] spLNms f1 fd1) (MD : Has P w K mg base 1 "_law_model" ["_law_names_here"] (spLMd K) f2 fd2) (AMT : Has P w K mg base 2 "_law_amount" ["_law_pot_here", "_law_size"] spLAm f3 fd3)
    (PU : HasM P w K mg base C 6 "put" ["self", "who", "to", "amount"] (spPut K C) f4 fd4)
    (M : Mk K C fI) (gC : mg "Book" = some (.ref C)) (GI : FnOk P w K mg base CX0 3 fI fdI ["self", "persons"] (spInit K C)) (bI : Binds K fdI ["self", "persons"] []) : FnOk P w K mg base CX0 8 f fd ["_law_pot_here"] (spLNt K C) := by
  refine F.ok scLNt (fun vs H Q E h => ?_) (fun cdv Ar outer s H vs Q E0 hr h => ?_)
  · obtain ⟨_, rfl, _⟩ := h
    rfl
  · obtain ⟨p, rfl, hp, q⟩ := h
    have hu := hu_of hr
    have hr1 := hr.mono (show 1 ≤ 7 by decide)
    have hr2 := hr.mono (show 2 ≤ 7 by decide)
    have hr3 := hr.mono (show 3 ≤ 7 by decide)
    have hr4 := hr.mono (show 4 ≤ 7 by decide)
    have hr6 := hr.mono (show 6 ≤ 7 by decide)
    refine ⟨_, (pss_cons (ps_set (i := 1) scLNt.nd rfl (.inl rfl) (pe_call TK.ok hr1 (by rfl) TK.g TK.kp TK.b .nil pass0 (pa_cons (pv 0) (pa_cons pe_int pa_nil)))) (pss_cons (ps_set (i := 2) scLNt.nd rfl (.inl rfl) (pe_call LN.ok hr3 (by rfl) LN.g LN.kp LN.b .nil pass0 (pa_cons (pv 0) (pa_cons (pe_ix ix_list (pe_lst (pa_cons pe_int (pa_cons pe_int (pa_cons pe_int (pa_cons (pe_op op_add pe_int (pe_call TK.ok hr1 (by rfl) TK.g TK.kp TK.b .nil pass0 (pa_cons (pv 0) (pa_cons pe_int pa_nil)))) pa_nil))))) (pe_call TK.ok hr1 (by rfl) TK.g TK.kp TK.b .nil pass0 (pa_cons (pv 0) (pa_cons pe_int pa_nil))) (fun _ _ => rfl)) pa_nil)))) (pss_cons (ps_set (i := 3) scLNt.nd rfl (.inl rfl) (pe_call MD.ok hr1 (by rfl) MD.g MD.kp MD.b .nil pass0 (pa_cons (pv 2) pa_nil))) (pss_cons (ps_set (i := 4) scLNt.nd rfl (.inl rfl) (pe_make M GI hr4 (by rfl) gC bI .nil pass0 (pa_cons (pv 2) pa_nil))) (pss_cons (ps_for PassesOwn.never rfl (pi_list (pv 2)) (pg_name (i := 5) scLNt.nd rfl (.inl rfl)) (pss_one (ps_for PassesOwn.never rfl (pi_range1 (by rfl) B2.range (pa_cons (pe_ix ix_list (pe_lst (pa_cons pe_int (pa_cons pe_int (pa_cons pe_int (pa_cons pe_int (pa_cons pe_int pa_nil)))))) (pe_call TK.ok hr1 (by rfl) TK.g TK.kp TK.b .nil pass0 (pa_cons (pv 0) (pa_cons pe_int pa_nil))) (fun _ _ => rfl)) pa_nil)) (pg_name (i := 6) scLNt.nd rfl (.inl rfl)) (pss_cons (ps_set (i := 7) scLNt.nd rfl (.inl rfl) (pe_tup (pa_cons (pe_call AM.ok hr2 (by rfl) AM.g AM.kp AM.b .nil pass0 (pa_cons (pv 0) (pa_cons (pe_slice sl_list (pv 2) po_none (po_some (pe_op op_add pe_int (pe_call TK.ok hr1 (by rfl) TK.g TK.kp TK.b .nil pass0 (pa_cons (pv 0) (pa_cons (pe_callB call_len_seq (by rfl) B.len PySem.boot_len (pa_cons (pv 2) pa_nil)) pa_nil)))))) pa_nil))) (pa_cons (pe_call AMT.ok hr2 (by rfl) AMT.g AMT.kp AMT.b .nil pass0 (pa_cons (pv 0) (pa_cons (pv 1) pa_nil))) pa_nil)))) (pss_cons (ps_expr (pe_bm PySem.F.plainAttrs_list PySem.F.slot_list_append PySem.F.type_list_append mt_append (pe_dget hu (pe_dget hu (pv 3) pe_str (fun _ _ => rfl)) (pv 5) (fun _ _ => rfl)) (pa_cons (pv 7) pa_nil))) (pss_one (ps_set (i := 4) scLNt.nd rfl (.inl rfl) (pe_meth (pv 4) T.cl PU.m PU.ok hr6 PU.b .nil pass0 (pa_cons (pv 5) (pa_cons (pe_ix ix_tup (pv 7) pe_int (fun _ _ => rfl)) (pa_cons (pe_ix ix_tup (pv 7) pe_int (fun _ _ => rfl)) pa_nil))))))))))) (pss_one (ps_ret (pe_tup (pa_cons (pv 3) (pa_cons (pv 4) pa_nil)))))))))), ?_⟩
    refine ⟨.ref p, rfl, p, 2, rfl, hp, litM _ (by decide) (by decide), fun sz H1 sz0 sz1 hp1 bt1 => ?_⟩
    have hsz : sz = 0 ∨ sz = 1 := by omega
    refine ⟨.ref p, rfl, .ref p, rfl, p, 12, rfl, hp1, litM _ (by decide) (by decide), fun t1 Ha ta0 ta1 hpa bta => ⟨1, t1, rfl, rfl, by show 4 ≤ sizeLine; decide, fun l nl => ?_⟩⟩
    have lp : l ≠ p := hpa.ne nl
    refine ⟨.ref p, rfl, p, 4, rfl, hpa.new nl, litM _ (by decide) (by decide), fun u H2 u0 u1 hp2 bt2 => ?_⟩
    have hl2 := bt2 _ _ lp (upd_same (H := Ha) (a := l))
    obtain ⟨v, ev, mv⟩ := pick (xs := [V.int 3, V.int 5, V.int 12, V.int (1 + t1)]) u0 u1
    refine ⟨l, _, _, v, rfl, rfl, .inl (.inl hl2), ev, ?_⟩
    have hv : ∃ mn : Nat, v = .int (mn : Nat) ∧ 1 ≤ mn ∧ mn ≤ 12 := by
      simp only [List.mem_cons, List.not_mem_nil, or_false] at mv
      rcases mv with rfl | rfl | rfl | rfl
      · exact ⟨3, rfl, by decide, by decide⟩
      · exact ⟨5, rfl, by decide, by decide⟩
      · exact ⟨12, rfl, by decide, by decide⟩
      · exact ⟨(1 + t1).toNat, by rw [Int.toNat_of_nonneg (by omega)], by omega, by omega⟩
    obtain ⟨mn, rfl, m1, m12⟩ := hv
    refine ⟨p, mn, rfl, hp2, by omega, fun r zs H4 nr rp hr4' lzs nd nm hp4 bt4 => ?_⟩
    have nz : NamesOk zs := ⟨by omega, by omega, nd, nm⟩
    have bt04 : But p H H4 := bt1.trans (bta.trans ((But.new nl).trans (bt2.trans bt4)))
    refine ⟨.ref r, rfl, r, zs, rfl, hr4', nz.nd, by omega, fun a H7 s7 na hM7 => ?_⟩
    have nap : ¬ a.Has p := fun h => by
      obtain ⟨px, py, pe, _⟩ := hp4
      have := na p h
      rw [pe] at this
      cases this
    have naH : ∀ c, a.Has c → H c = none := fun c hc => by
      cases e : H c with
      | none => rfl
      | some o =>
        have := bt04 c o (fun z => nap (z ▸ hc)) e
        rw [na c hc] at this
        cases this
    have nar : ¬ a.Has r := fun h => by
      have := na r h
      rw [hr4'] at this
      cases this
    have hr7 := s7 _ _ hr4'
    refine ⟨.ref r, rfl, fun x dy nx ndy nxy => ?_⟩
    have s9 : Same H7 (upd (upd H7 dy (.own x)) x (.ins C dy [])) := fun c o e => by
      rw [upd_ne (ne_of_none e nx), upd_ne (ne_of_none e ndy)]
      exact e
    refine ⟨x, dy, r, zs, rfl, upd_same, s9 _ _ hr7, nz, fun H10 b10 bk => ⟨rfl, ?_⟩⟩
    have s710 : Same H7 H10 := fun c o e => b10 c o (ne_of_none e nx) (s9 c o e)
    have b0 : BookAt K C H10 x (bkOf zs (newMd zs.length)) := bk
    have gd0 := (Gd.new (zs := zs))
    have g0 : Gs zs (newMd zs.length) := gd0.gs nz List.length_replicate List.length_replicate
    have gb0 : Gb (newMd zs.length) := Gd.gb gd0
    have st0 : S34 K C H10 p a x zs (newMd zs.length) 0 := ⟨(hp4.same s7).same s710, model_same hM7 s710, b0, g0, gb0, gd0.bd, nap⟩
    have bt010 : But p H H10 := bt04.trans (same_but (s7.trans s710))
    have hr10 := s710 _ _ hr7
    clear bk b10 s9 nx ndy nxy hM7 hr7 hp2 hl2 bt2
    refine ⟨.ref r, rfl, r, rfl, ⟨_, .inl (.inl hr10)⟩, ?_⟩
    refine for_it (walk_list (K := K) (a := r) (xs := zs.map V.str)) (fun i σ H' => ∃ y5 y6 y7 b D, σ = [some (.ref p), some (.int sz), some (.ref r), some (.ref a.m), some (.ref b), y5, y6, y7] ∧ BtM p a H10 H' ∧ S34 K C H' p a b zs D (3 * i)) ⟨_, _, _, _, _, rfl, BtM.refl, st0⟩ (fun i σ H' _ hP => ?_) (fun i y σ H11' H11 hi hP hY => ?_) (fun σ H11 hP => ?_)
    · obtain ⟨_, _, _, _, _, _, bt, _⟩ := hP
      exact .inl (.inl (bt _ _ rp nar hr10))
    · obtain ⟨rfl, hx⟩ := hY
      obtain ⟨y5, y6, y7, b, D, rfl, bt, st⟩ := hP
      rw [List.length_map] at hi
      have exx : y = .str zs[i] := by
        rw [List.getElem?_map, List.getElem?_eq_getElem hi] at hx
        exact (Option.some.inj hx).symm
      subst exx
      have hz : zs[i] ∈ zs := List.getElem_mem hi
      generalize zs[i] = z at hz
      refine ⟨by show 5 ≤ sizeLine; decide, fun l2 nl2 => ?_⟩
      have l2p : l2 ≠ p := st.pot.ne nl2
      have sl2 := same_upd (o := .lst [V.int 1, V.int 1, V.int 2, V.int 3, V.int 0]) nl2
      have st2 := st.same sl2
      have bt2 := bt.same sl2
      have hl2 : upd H11 l2 (.lst [V.int 1, V.int 1, V.int 2, V.int 3, V.int 0]) l2 = some (.lst [V.int 1, V.int 1, V.int 2, V.int 3, V.int 0]) := upd_same
      generalize upd H11 l2 (.lst [V.int 1, V.int 1, V.int 2, V.int 3, V.int 0]) = H12 at st2 bt2 hl2
      refine ⟨.ref p, rfl, p, 5, rfl, st2.pot, litM _ (by decide) (by decide), fun u H13 u0 u1 hp13 bt13 => ?_⟩
      have st3 := st2.draw hp13 bt13
      have bt3 := bt2.but bt13
      obtain ⟨v, ev, mv⟩ := pick (xs := [V.int 1, V.int 1, V.int 2, V.int 3, V.int 0]) u0 u1
      have hv : ∃ c : Nat, v = .int (c : Nat) ∧ c ≤ 3 := by
        simp only [List.mem_cons, List.not_mem_nil, or_false] at mv
        rcases mv with rfl | rfl | rfl | rfl | rfl
        · exact ⟨1, rfl, by decide⟩
        · exact ⟨1, rfl, by decide⟩
        · exact ⟨2, rfl, by decide⟩
        · exact ⟨3, rfl, by decide⟩
        · exact ⟨0, rfl, by decide⟩
      obtain ⟨c, rfl, c3⟩ := hv
      refine ⟨l2, _, _, .int (c : Nat), rfl, rfl, .inl (.inl (bt13 _ _ l2p hl2)), ev, (c : Int), rfl, by omega, by omega, ?_⟩
      refine for_it walk_range (fun j σ H' => ∃ y6 y7 b D, σ = [some (.ref p), some (.int sz), some (.ref r), some (.ref a.m), some (.ref b), some (.str z), y6, y7] ∧ BtM p a H10 H' ∧ S34 K C H' p a b zs D (3 * i + j)) ⟨_, _, _, _, rfl, bt3, st3⟩ (fun _ _ _ _ _ => trivial) (fun j y σ H14' H14 hj hP hY => ?_) (fun σ H14 hP => ?_)
      · obtain ⟨rfl, rfl⟩ := hY
        obtain ⟨y6, y7, b, D, rfl, bt4, st4⟩ := hP
        have hj' : j < c := by simpa using hj
        have hr14 := bt4 _ _ rp nar hr10
        have zs0 := st4.g.nz.n0
        have zs1 := st4.g.nz.n1
        have lzz : (zs.map V.str).length = zs.length := List.length_map ..
        refine ⟨.ref p, rfl, .ref r, rfl, .ref p, rfl, .ref r, rfl, r, _, rfl, .inl (.inl (.inl hr14)), p, _, rfl, st4.pot, litM _ (by omega) (by omega), fun t H15 t0 t1 hp15 bt15 => ⟨1, t, rfl, rfl, ?_⟩⟩
        obtain ⟨tn, etn⟩ : ∃ tn : Nat, 1 + t = (tn : Nat) := ⟨(1 + t).toNat, by rw [Int.toNat_of_nonneg (by omega)]⟩
        have st5 := st4.draw hp15 bt15
        have bt5 := bt4.but bt15
        refine ⟨_, rfl, r, _, rfl, .inl (.inl (bt15 _ _ rp hr14)), fun L nL => ?_⟩
        rw [etn, cut_take, ← List.map_take]
        have lt : (zs.take tn).length = min tn zs.length := List.length_take ..
        have sL := same_upd (o := .lst ((zs.take tn).map V.str)) nL
        have hL : upd H15 L (.lst ((zs.take tn).map V.str)) L = some (.lst ((zs.take tn).map V.str)) := upd_same
        have Lp := st5.pot.ne nL
        have st6 := st5.same sL
        have bt6 := bt5.same sL
        generalize upd H15 L (.lst ((zs.take tn).map V.str)) = H16 at hL st6 bt6
        have ll : ((zs.take tn).map V.str).length = (zs.take tn).length := List.length_map ..
        refine ⟨p, _, rfl, st6.pot, .inr ⟨L, _, rfl, Lp, hL, by omega, by omega, fun w1 H17 hw1 hp17 bt17 => ?_⟩⟩
        obtain ⟨y, hy0, rfl⟩ := List.mem_map.mp hw1
        have hy : y ∈ zs := List.mem_of_mem_take hy0
        have st7 := st6.draw hp17 bt17
        have bt7 := bt6.but bt17
        refine ⟨.ref p, rfl, .int sz, rfl, p, sz, rfl, hsz, st7.pot, fun n H18 am hp18 bt18 => ?_⟩
        have st8 := st7.draw hp18 bt18
        have bt8 := bt7.but bt18
        refine ⟨by show 2 ≤ sizeLine; decide, fun t nt => ?_⟩
        have hM := st8.mod
        have ej := idx_get hz
        obtain ⟨gv, f', l', rw', xs, eg, ef, el, er, hr0, hd0⟩ := hM.at_ ej
        have sT := same_upd (o := .tup [V.str y, V.int n]) nt
        have hMt := model_same hM sT
        obtain ⟨gv2, f2, l2', rw2, xs2, _, _, el2, er2, hr02, hd02⟩ := hMt.at_ ej
        rw [el] at el2
        rw [er] at er2
        cases el2
        cases er2
        rw [sT _ _ hr0] at hr02
        cases hr02
        refine ⟨.ref a.m, rfl, a.m, .ref a.dn, rfl, hMt.g3, .str z, rfl, a.dn, .ref rw', rfl, hMt.gn ej er, .inl ⟨rfl, _, .inl (.inl (sT _ _ hr0))⟩, .ref t, rfl, ?_⟩
        have lx : xs.length ≤ 60 := by
          rw [hd0.len]
          unfold notesD
          rw [List.length_map]
          exact st8.g.rows _ (List.mem_of_getElem? el)
        refine ⟨rw', xs, _, rfl, rfl, sT _ _ hr0, small1000 (by omega), ?_⟩
        obtain ⟨hM9, bf9⟩ := hM.app (y := y) (n := n) er el hr0 hd0 nt
        have ed : { D with notes := D.notes.set (zs.idxOf z) (l' ++ [(y, n)]) } = doneD zs D (.put z y n) := by
          show _ = { D with notes := D.notes.set (zs.idxOf z) (D.notes.getD (zs.idxOf z) [] ++ [(y, n)]) }
          rw [getD_of el]
        rw [ed] at hM9
        have tr : t ≠ rw' := (ne_of_none hr0 nt).symm
        have htup : upd (upd H18 t (.tup [V.str y, V.int n])) rw' (.lst (xs ++ [.ref t])) t = some (.tup [V.str y, V.int n]) := by rw [upd_ne tr, upd_same]
        generalize upd (upd H18 t (.tup [V.str y, V.int n])) rw' (.lst (xs ++ [.ref t])) = H19 at hM9 bf9 htup
        obtain ⟨g9, gb9, bd9⟩ := deed_ok (d := .put z y n) st8.g st8.gb st8.bd (by omega) ⟨hz, hy, am.1, am.2⟩
        have b9 : BookAt K C H19 b (bkOf zs D) := st8.bk.keep (bf9.kp hM)
        obtain ⟨dx, tn2, on, wg, ws, wd, e, _⟩ := b9.ex
        refine ⟨.ref b, rfl, b, dx, _, rfl, e, bf_no (NoF.mk' (by decide +kernel)), .str z, rfl, .ref t, rfl, t, _, 0, .str y, rfl, rfl, .inl (.inl htup), rfl, .ref t, rfl, t, _, 1, .int n, rfl, rfl, .inl (.inl htup), rfl, ?_⟩
        refine ⟨b, _, z, y, zs.idxOf z, zs.idxOf y, n, rfl, b9, st8.g.ok, idx_get hz, idx_get hy, am.1, ?_, fun b' H20 s20 nb hb' => ?_⟩
        · have : (D.notes.map List.length).sum ≤ 3 * i + j := st8.bd.my
          show (D.notes.map List.length).sum < 60
          omega
        · have pf : Pot H19 p := by
            obtain ⟨px, py, pe, pr⟩ := st8.pot
            exact ⟨px, py, bf9 _ _ (fun f => st8.np f.has) pe, pr⟩
          have hb2 : BookAt K C H20 b' (bkOf zs (doneD zs D (.put z y n))) := hb'
          exact ⟨_, _, _, _, rfl, (bt8.butF bf9).same s20, pf.same s20, model_same hM9 s20, hb2, g9, gb9, bd9, st8.np⟩
      · obtain ⟨y6, y7, b', D', rfl, bt4, st4⟩ := hP
        exact ⟨_, _, _, _, _, rfl, bt4, st4.up (by simp; omega)⟩
    · obtain ⟨y5, y6, y7, b, D, rfl, bt, st⟩ := hP
      rw [List.length_map] at st
      have btT : But p H H11 := fun c o n e => bt _ _ n (fun f => by rw [naH c f] at e; cases e) (bt010 c o n e)
      refine ⟨.ref a.m, rfl, .ref b, rfl, by show 2 ≤ sizeLine; decide, fun T' nT => ?_⟩
      have sT := same_upd (o := .tup [.ref a.m, .ref b]) nT
      exact q zs a D b T' _ upd_same ((st.same sT).up (by omega)) (btT.trans (same_but sT)) naH
end
end Rc

namespace Rc
open PySem PySem.Spec PyProof.Rows L2 RZ
theorem notes_dp {K : PySem.W.Frag} {H : Hp} {m : Addr} {mx : List V} {l : List (Str × Int)} (h : H m = some (.lst mx)) (d : DtAll K H mx (notesD l)) : Dp K H (.ref m) (.list (notesD l)) := .lst (.inl (.inl h)) (DtAll.dp _ (tup_notes l) d)
theorem shaped_nil : SeqAt.shaped (.list []) = true := by decide +kernel
/-- a dict by names, of a function -/
def dctF (zs : List Str) (f : Str → V) : List (Key × V) := zs.map fun z => (Sum.inr z, f z)
theorem dctF_val {f : Str → V} : ∀ {zs : List Str} {z : Str}, z ∈ zs → valV (dctF zs f) (Sum.inr z : Key) = some (f z)
  | [], _, h => by cases h
  | y :: zs, z, h => by
    by_cases e : y = z
    · subst e
      exact valV_pos rfl
    · have hz : z ∈ zs := (List.mem_cons.mp h).resolve_left fun c => e c.symm
      show valV ((Sum.inr y, f y) :: dctF zs f) _ = _
      rw [valV_neg fun c => e (Sum.inr.inj c)]
      exact dctF_val hz
theorem dctF_put {f : Str → V} {zs : List Str} {z : Str} (h : z ∉ zs) : putK (dctF zs f) (Sum.inr z) (f z) = dctF (zs ++ [z]) f := by
  rw [put_new fun kv hk e => ?_]
  · unfold dctF
    rw [List.map_append]
    rfl
  · obtain ⟨y, hy, rfl⟩ := List.mem_map.mp hk
    exact h (Sum.inr.inj e ▸ hy)
theorem dctF_len (zs : List Str) (f : Str → V) : (dctF zs f).length = zs.length := List.length_map ..
theorem nx_scal (o : Option Str) (z : Str) : scal (nxV o) (.str z) = true := by cases o <;> rfl
theorem nxV_str {o : Option Str} {z : Str} : decide (nxV o = .str z) = decide (o = some z) := by
  cases o with
  | none => rfl
  | some y => exact decide_eq_decide.mpr ⟨fun e => by rw [V.str.inj e], fun e => by rw [Option.some.inj e]; rfl⟩
section
variable {P : Program} {w : World} {K : PySem.W.Frag} {mg : Str → Option Value} {base : Heap}
/-! ### _law_leads -/
abbrev sLLe : Stmt := topS 43
abbrev nLLe : List Str := ["_law_model_here", "_law_found", "_law_who", "_law_left_here"]
theorem scLLe : FnScope nLLe ["_law_model_here"] (defScope sLLe) := ⟨rfl, rfl, rfl, by decide +kernel, rfl, by decide +kernel, by decide +kernel⟩
abbrev leadF (zs : List Str) (D : Md) : Str → V := fun z => nxV (nxD zs D z)
def spLLe (K : PySem.W.Frag) : Sp := fun vs H Q _ => ∃ (a : MdA) (D : Md) (zs : List Str), vs = [.ref a.m] ∧ ModelAt K H zs a D ∧ Gs zs D ∧ ∀ d H', Same H H' → H d = none → H' d = some (.dK (dctF zs (leadF zs D))) → Q (.ref d) H'
theorem ok_lle {f f1 : Addr} {fd fd1 : FuncData} (F : Fun K "_law_leads" "_law_leads" sLLe f fd) (LL : Has P w K mg base 2 "_law_left" ["_law_model_here", "_law_who"] (spLLf K) f1 fd1) : FnOk P w K mg base CX0 3 f fd ["_law_model_here"] (spLLe K) := by
  refine F.ok scLLe (fun vs H Q E h => ?_) (fun cdv Ar outer s H vs Q E hr h => ?_)
  · obtain ⟨_, _, _, rfl, _⟩ := h
    rfl
  · obtain ⟨a, D, zs, rfl, hM, g, q⟩ := h
    have hu := hu_of hr
    refine ⟨_, (pss_cons (ps_set (i := 1) scLLe.nd rfl (.inl rfl) pe_dnewK) (pss_cons (ps_for PassesOwn.never rfl (pi_list (pe_dget hu (pv 0) pe_str (fun _ _ => rfl))) (pg_name (i := 2) scLLe.nd rfl (.inl rfl)) (pss_cons (ps_set (i := 3) scLLe.nd rfl (.inl rfl) (pe_call LL.ok hr (by rfl) LL.g LL.kp LL.b .nil pass0 (pa_cons (pv 0) (pa_cons (pv 2) pa_nil)))) (pss_one (ps_dput hu (pv 1) (pv 2) (pe_ifExp (pt_cmpR (op_neD hr.units) (pv 3) (pe_lst pa_nil) (nomark _)) (pe_ix ix_tup (pe_ix ix_list (pv 3) pe_int (fun _ _ => rfl)) pe_int (fun _ _ => rfl)) pe_non) rfl)))) (pss_one (ps_ret (pv 1))))), ?_⟩
    have wk := g.walks
    have lz := wk.lz
    refine fun d nd => ?_
    have s1 := same_upd (o := .dK []) nd
    have hd1 : upd H d (.dK []) d = some (.dK (dctF (zs.take 0) (leadF zs D))) := upd_same
    generalize upd H d (.dK []) = H1 at s1 hd1
    refine ⟨.ref a.m, rfl, a.m, .ref a.lo, rfl, (model_same hM s1).g0, a.lo, rfl, ⟨_, .inl (.inl (s1 _ _ hM.ho))⟩, ?_⟩
    refine for_it (walk_list (K := K) (a := a.lo) (xs := zs.map V.str)) (fun i σ H' => ∃ y2 y3, σ = [some (.ref a.m), some (.ref d), y2, y3] ∧ Same H H' ∧ H' d = some (.dK (dctF (zs.take i) (leadF zs D)))) ⟨_, _, rfl, s1, hd1⟩ (fun i σ H' _ hP => ?_) (fun i x σ H2' H2 hi hP hY => ?_) (fun σ H2 hP => ?_)
    · obtain ⟨_, _, _, s2, _⟩ := hP
      exact .inl (.inl (s2 _ _ hM.ho))
    · obtain ⟨rfl, hx⟩ := hY
      obtain ⟨y2, y3, rfl, s2, hd2⟩ := hP
      rw [List.length_map] at hi
      have exx : x = .str zs[i] := by
        rw [List.getElem?_map, List.getElem?_eq_getElem hi] at hx
        exact (Option.some.inj hx).symm
      subst exx
      have ni : zs[i] ∉ zs.take i := fun c => by
        obtain ⟨j, hj, ej⟩ := List.getElem_of_mem c
        rw [List.length_take] at hj
        rw [List.getElem_take] at ej
        have := (List.getElem_inj g.nz.nd).mp ej
        omega
      have et : zs.take (i + 1) = zs.take i ++ [zs[i]] := take_succ hi
      rw [et]
      have hz : zs[i] ∈ zs := List.getElem_mem hi
      generalize zs[i] = z at hz ni
      have ej := idx_get hz
      have hM2 := model_same hM s2
      obtain ⟨gv, f', l', r, xs, eg, ef, el, er, hr0, hd0⟩ := hM2.at_ ej
      have ll := g.rows l' (List.mem_of_getElem? el)
      have en := nxD_at hM.zn ej el ef
      have gl := g.left el ef
      refine ⟨.ref a.m, rfl, .str z, rfl, a, D, zs, z, _, l', f', rfl, hM2, ej, el, ef, by omega, fun m mx H3 s3 nm hm dm => ?_⟩
      have dp := dctF_put (f := leadF zs D) ni
      have eF : leadF zs D z = nxV ((leftN l' f').head?.map (·.1)) := by
        show nxV (nxD zs D z) = _
        rw [en]
      rw [eF] at dp
      generalize leftN l' f' = L at dm dp gl
      refine ⟨.ref m, rfl, Nat.zero_le _, fun e ne => ?_⟩
      have s4 := same_upd (o := .lst []) ne
      have he : upd H3 e (.lst []) e = some (.lst []) := upd_same
      generalize upd H3 e (.lst []) = H4 at s4 he
      have hm4 := s4 _ _ hm
      have dm4 := DtAll.same s4 _ dm
      have hd4 := s4 _ _ (s3 _ _ hd2)
      refine ⟨.list (notesD L), .list [], notes_dp hm4 dm4, .lst (.inl (.inl he)) .nil, nice_shaped (nice_notes g.nz.nm gl).list, shaped_nil, _, rfl, ?_⟩
      have fin : ∀ v, v = nxV (L.head?.map (·.1)) → ∃ y2 y3, ([some (.ref a.m), some (.ref d), some (.str z), some (.ref m)] : L2.St) = [some (.ref a.m), some (.ref d), y2, y3] ∧ Same H (upd H4 d (.dK (putK (dctF (zs.take i) (leadF zs D)) (Sum.inr z) v))) ∧ upd H4 d (.dK (putK (dctF (zs.take i) (leadF zs D)) (Sum.inr z) v)) d = some (.dK (dctF (zs.take i ++ [z]) (leadF zs D))) := fun v ev => by
        subst ev
        refine ⟨_, _, rfl, fun c o ec => ?_, by rw [upd_same, dp]⟩
        rw [upd_ne (ne_of_none ec nd)]
        exact s4 _ _ (s3 _ _ (s2 c o ec))
      have lsm : (dctF (zs.take i) (leadF zs D)).length < sizeLine := by
        rw [dctF_len, List.length_take]
        exact small1000 (by omega)
      cases L with
      | nil => exact iteF ⟨.ref d, rfl, .str z, rfl, d, _, rfl, DPut.k (k := Sum.inr z) hd4 lsm, fin .non rfl⟩
      | cons n t =>
        cases dm4 with
        | cons d1 d2 =>
          rename_i x xr
          obtain ⟨ta, rfl, qt⟩ := note_inv d1
          exact iteT ⟨.ref m, rfl, m, _, 0, .ref ta, rfl, rfl, .inl (.inl hm4), atI_nat (j := 0) rfl, ta, _, 0, .str n.1, rfl, rfl, qt, rfl, .ref d, rfl, .str z, rfl, d, _, rfl, DPut.k (k := Sum.inr z) hd4 lsm, fin (.str n.1) rfl⟩
    · obtain ⟨_, _, rfl, s2, hd2⟩ := hP
      rw [List.length_map, List.take_length] at hd2
      exact ⟨.ref d, rfl, q d H2 s2 nd hd2⟩
/-! ### _law_comes_back -/
abbrev sLCb : Stmt := topS 44
abbrev nLCb : List Str := ["_law_leads_here", "_law_who", "_law_here", "_law_k"]
theorem scLCb : FnScope nLCb ["_law_leads_here", "_law_who"] (defScope sLCb) := ⟨rfl, rfl, rfl, by decide +kernel, rfl, by decide +kernel, by decide +kernel⟩
def spLCb : Sp := fun vs H Q _ => ∃ (d : Addr) (D : Md) (zs : List Str) (z : Str), vs = [.ref d, .str z] ∧ H d = some (.dK (dctF zs (leadF zs D))) ∧ Gs zs D ∧ z ∈ zs ∧ Q (.bl (ringM zs (nxD zs D) z).isSome) H
theorem ok_lcb {f : Addr} {fd : FuncData} (F : Fun K "_law_comes_back" "_law_comes_back" sLCb f fd) (B : Blt mg) (B2 : Blt2 mg) : FnOk P w K mg base CX0 1 f fd ["_law_leads_here", "_law_who"] spLCb := by
  refine F.ok scLCb (fun vs H Q E h => ?_) (fun cdv Ar outer s H vs Q E hr h => ?_)
  · obtain ⟨_, _, _, _, rfl, _⟩ := h
    rfl
  · obtain ⟨d, D, zs, z, rfl, hd, g, hz, q⟩ := h
    have hu := hu_of hr
    have wk := g.walks
    have ld := wk.ld
    have lz := wk.lz
    refine ⟨_, (pss_cons (ps_set (i := 2) scLCb.nd rfl (.inl rfl) (pe_dget hu (pv 0) (pv 1) (fun _ _ => rfl))) (pss_cons (ps_for PassesOwn.never rfl (pi_range1 (by rfl) B2.range (pa_cons (pe_callB call_lenD (by rfl) B.len PySem.boot_len (pa_cons (pv 0) pa_nil)) pa_nil)) (pg_name (i := 3) scLCb.nd rfl (.inl rfl)) (pss_one (ps_if (PW.pt (pw_and (pt_cmpR op_notN (pv 2) pe_non (nomark _)) (pw_and1 (pt_cmpR op_ne (pv 2) (pv 1) (nomark _))))) (pss_one (ps_set (i := 2) scLCb.nd rfl (.inl rfl) (pe_dget hu (pv 0) (pv 2) (fun _ _ => rfl)))) pss_nil))) (pss_one (ps_ret (pe_cmpR op_eq (pv 2) (pv 1) (by rfl)))))), ?_⟩
    have lead : ∀ y, y ∈ zs → DGet H d (.str y) (some (leadF zs D y)) := fun y hy => by
      rw [← dctF_val (f := leadF zs D) hy]
      exact DGet.k (k := Sum.inr y) hd
    have wz : ∀ k y, walkN (nxD zs D) z k = some y → y ∈ zs := fun k => by
      induction k with
      | zero => exact fun y e => ld _ _ e
      | succ k ih =>
        intro y e
        have e : stepN (nxD zs D) z (walkN (nxD zs D) z k) = some y := e
        cases h : walkN (nxD zs D) z k with
        | none => rw [h] at e; cases e
        | some x =>
          rw [h] at e
          have e : (if x = z then some x else nxD zs D x) = some y := e
          split at e
          · cases e
            exact ih _ h
          · exact ld _ _ e
    refine ⟨.ref d, rfl, .str z, rfl, d, leadF zs D z, rfl, lead z hz, .ref d, rfl, d, _, rfl, hd, (zs.length : Int), congrArg (fun z => [V.int z]) (by rw [dctF_len]), by omega, by omega, ?_⟩
    refine for_it walk_range (fun i σ H' => ∃ y3, σ = [some (.ref d), some (.str z), some (nxV (walkN (nxD zs D) z i)), y3] ∧ H' = H) ⟨_, rfl, rfl⟩ (fun _ _ _ _ _ => trivial) (fun i x σ H2' H2 hi hP hY => ?_) (fun σ H2 hP => ?_)
    · obtain ⟨rfl, rfl⟩ := hY
      obtain ⟨y3, rfl, rfl⟩ := hP
      have es : walkN (nxD zs D) z (i + 1) = stepN (nxD zs D) z (walkN (nxD zs D) z i) := rfl
      rw [es]
      have wi := wz i
      generalize walkN (nxD zs D) z i = o at wi
      refine ⟨nxV o, rfl, rfl, _, rfl, ?_⟩
      cases o with
      | none => exact iteF ⟨_, rfl, rfl⟩
      | some y =>
        refine iteT ⟨.str y, rfl, .str z, rfl, rfl, _, rfl, ?_⟩
        by_cases e : y = z
        · subst e
          rw [decide_eq_true rfl]
          have e1 : stepN (nxD zs D) y (some y) = some y := if_pos rfl
          rw [e1]
          exact iteF ⟨_, rfl, rfl⟩
        · rw [decide_eq_false (show ¬ V.str y = V.str z from fun c => e (V.str.inj c))]
          have e1 : stepN (nxD zs D) z (some y) = nxD zs D y := if_neg e
          rw [e1]
          exact iteT ⟨.ref d, rfl, .str y, rfl, d, leadF zs D y, rfl, lead y (wi y rfl), _, rfl, rfl⟩
    · obtain ⟨y3, rfl, rfl⟩ := hP
      refine ⟨_, rfl, .str z, rfl, nx_scal _ _, ?_⟩
      rw [nxV_str]
      simp only [Int.sub_zero, Int.toNat_natCast] at *
      rw [walk_back ld hz]
      · exact q
      · have := nodup_le _ _ (trail_ended ld hz).nd (trail_ended ld hz).sub
        omega
end
end Rc

namespace Rc
open PySem PySem.Spec PyProof.Rows L2 RZ LamX
theorem lt_tot : ∀ (a b : List Nat), ¬ a < b → a = b ∨ b < a
  | [], [], _ => .inl rfl
  | [], y :: b, h => absurd (List.nil_lt_cons _ _) h
  | x :: a, [], _ => .inr (List.nil_lt_cons _ _)
  | x :: a, y :: b, h => by
    rw [List.cons_lt_cons_iff] at h
    rw [List.cons_lt_cons_iff]
    rcases Nat.lt_trichotomy x y with h1 | h1 | h1
    · exact absurd (.inl h1) h
    · subst h1
      rcases lt_tot a b (fun c => h (.inr ⟨rfl, c⟩)) with e | e
      · exact .inl (by rw [e])
      · exact .inr (.inr ⟨rfl, e⟩)
    · exact .inr (.inl h1)
theorem lt_tr {a b c : List Nat} (h1 : a < b) (h2 : b < c) : a < c := List.lt_trans h1 h2
theorem str_ext {a b : Str} (h : a.cps.toList = b.cps.toList) : a = b := by
  cases a
  cases b
  exact congrArg Str.mk (Array.toList_inj.mp h)
theorem le_tr {a b c : Str} (h1 : ¬ b.cps.toList < a.cps.toList) (h2 : ¬ c.cps.toList < b.cps.toList) : ¬ c.cps.toList < a.cps.toList := fun h => by
  rcases lt_tot _ _ h1 with e | e
  · rw [e] at h2
    exact h2 h
  · exact h2 (lt_tr h e)
theorem rising_pw : ∀ (l : List Str) (p : Str), risingS p l = true → (p :: l).Pairwise fun a b => ¬ b.cps.toList < a.cps.toList
  | [], p, _ => by simp
  | x :: r, p, h => by
    have h' : (!ltCps x.cps.toList p.cps.toList && risingS x r) = true := h
    rw [Bool.and_eq_true, ltCps_eq] at h'
    have hx : ¬ x.cps.toList < p.cps.toList := by
      have := h'.1
      simpa using this
    have ih := rising_pw r x h'.2
    refine List.pairwise_cons.mpr ⟨fun y hy => ?_, ih⟩
    rcases List.mem_cons.mp hy with rfl | hy
    · exact hx
    · exact le_tr hx ((List.pairwise_cons.mp ih).1 y hy)
theorem sorted_pw {l : List Str} (h : sortedS l = true) : l.Pairwise fun a b => ¬ b.cps.toList < a.cps.toList := by
  cases l with
  | nil => exact .nil
  | cons x r => exact rising_pw r x h
theorem sorted_same {zs ys1 ys2 : List Str} (p1 : ys1.Perm zs) (p2 : ys2.Perm zs) (s1 : sortedS ys1 = true) (s2 : sortedS ys2 = true) : ys1 = ys2 :=
  List.Perm.eq_of_pairwise (fun a b _ _ h1 h2 => str_ext ((lt_tot _ _ h2).elim id fun c => absurd c h1)) (sorted_pw s1) (sorted_pw s2) (p1.trans p2.symm)
def ringsD (rs : List (List Str)) : PyData := .list (rs.map fun x => .list (x.map .str))
theorem rings_dt {K : PySem.W.Frag} {H H' : Hp} {r : Addr} {as : List Addr} {rs : List (List Str)} (h : RingsAt H H' r as rs) (e : H' r = some (.lst (as.map V.ref))) : Dt K H' (.ref r) (ringsD rs) := by
  refine .lst (.inl (.inl e)) ?_
  clear e
  unfold RingsAt at h
  induction h with
  | nil => exact .nil
  | cons a b ih => exact .cons (.lst (.inl (.inl a.2.2)) (DtAll.strs _)) ih
theorem rings_ok {zs : List Str} {D : Md} (g : Gs zs D) : (∀ x ∈ ringsM zs (nxD zs D) zs, (∀ y ∈ x, nameT y = true) ∧ x.length ≤ 12) ∧ (ringsM zs (nxD zs D) zs).length ≤ 12 := by
  have wk := g.walks
  refine ⟨fun x hx => ?_, Nat.le_trans (List.length_filterMap_le _ _) wk.lz⟩
  obtain ⟨y, hy, ey⟩ := List.mem_filterMap.mp hx
  unfold ringAt at ey
  cases hR : ringM zs (nxD zs D) y with
  | none => rw [hR] at ey; cases ey
  | some rr =>
    rw [hR] at ey
    have ey : (if rr.head? = some y then some rr else none) = some x := ey
    split at ey
    · cases ey
      exact ring_names g.nz.nm wk.lz wk.ld hy _ hR
    · cases ey
theorem all_eqv34 (x y : PyData) (xs ys : List PyData) : PyData.eqvAll (x :: xs) (y :: ys) = (PyData.eqv x y && PyData.eqvAll xs ys) := by rw [PyData.eqvAll]
theorem strs_self : ∀ l : List Str, PyData.eqvAll (l.map PyData.str) (l.map PyData.str) = true
  | [] => by simp [PyData.eqvAll]
  | x :: r => by
    rw [List.map_cons, all_eqv34, strs_self r]
    have : PyData.eqv (.str x) (.str x) = true := by simp [PyData.eqv]
    rw [this]
    rfl
theorem list_self (l : List Str) : PyData.eqv (.list (l.map PyData.str)) (.list (l.map PyData.str)) = true := by
  have := strs_self l
  simp only [PyData.eqv]
  exact this
theorem list_some {l : List Str} (h : l ≠ []) : PyData.eqv (.list (l.map PyData.str)) (.list []) = false := by
  cases l with
  | nil => exact absurd rfl h
  | cons x r => simp [PyData.eqv, PyData.eqvAll]
theorem shaped_strs {l : List Str} (h : ∀ y ∈ l, nameT y = true) : SeqAt.shaped (.list (l.map PyData.str)) = true := nice_shaped (nice_names h).list
theorem strs_dp {K : PySem.W.Frag} {H : Hp} {x : Addr} {l : List Str} (h : H x = some (.lst (l.map V.str))) : Dp K H (.ref x) (.list (l.map PyData.str)) := .lst (.inl (.inl h)) (DpAll.strs l)
theorem RingsAt.get {H H' : Hp} {r : Addr} {as : List Addr} {rs : List (List Str)} (h : RingsAt H H' r as rs) {i : Nat} {x : List Str} (e : rs[i]? = some x) : ∃ c, as[i]? = some c ∧ H' c = some (.lst (x.map V.str)) := by
  unfold RingsAt at h
  induction h generalizing i with
  | nil => cases e
  | cons a b ih =>
    cases i with
    | zero =>
      cases e
      exact ⟨_, rfl, a.2.2⟩
    | succ i => exact ih e
theorem take_get {α : Type} {l : List α} {i : Nat} {x : α} (h : l[i]? = some x) : l.take (i + 1) = l.take i ++ [x] := by rw [List.take_add_one, h]; rfl
theorem flat_len {R : List (List Str)} (hR : R.length ≤ 12) (h : ∀ x ∈ R, x.length ≤ 12) (i : Nat) : (R.take i).flatten.length ≤ 144 := by
  have go : ∀ l : List (List Str), (∀ x ∈ l, x.length ≤ 12) → l.flatten.length ≤ 12 * l.length := fun l => by
    induction l with
    | nil => exact fun _ => Nat.le_refl _
    | cons a r ih =>
      intro hl
      have h1 := hl a List.mem_cons_self
      have h2 := ih fun x hx => hl x (List.mem_cons_of_mem _ hx)
      rw [List.flatten_cons, List.length_append, List.length_cons]
      omega
  have h1 := go (R.take i) fun x hx => h x (List.mem_of_mem_take hx)
  rw [List.length_take] at h1
  omega
theorem rr34 {K : PySem.W.Frag} {H : Hp} {Q : VK} {v : V} {d : PyData} (dt : Dt K H v d) (h : NiceS d 200) (q : Q (.str d.shown) H) : rRepr K [v] H Q := ⟨v, d, rfl, dt, h.ok.sh, .inl h.ok.nd, by have := h.dp; omega, nice_fits h.ok (by decide), q⟩
theorem book_ext34 {K : PySem.W.Frag} {C : Addr} {H H' : Hp} {b : Addr} {M : Bk} (h : BookAt K C H b M) (s : ExtN H H') : BookAt K C H' b M := by
  obtain ⟨dx, tn, on, vg, vs, vd, e, h1, hn, h2, h3, h4⟩ := h.ex
  have kt : KT H H' := fun c o e t => s c o e fun ps z => by rw [z] at t; exact t
  exact ⟨dx, tn, on, vg, vs, vd, s _ _ e (by intro ps z; cases z), s _ _ h1 (by intro ps z; cases z), hn, Dt.keepT kt _ (tup_ints _) h2, Dt.keepT kt _ (tup_stacks _) h3, Dt.keepT kt _ (tup_ints _) h4⟩
theorem zip_rings {R : List (List Str)} {as : List Addr} (h : as.length = R.length) (z : Str) : R.filter (fun y => decide (z ∈ y)) = ((as.zip R).filter fun p => decide (z ∈ p.2)).map (·.2) := by
  have e : (as.zip R).map (·.2) = R := List.map_snd_zip (by omega)
  conv => lhs; rw [← e]
  rw [List.filter_map]
  rfl
theorem ext_kt {H H' : Hp} (s : ExtN H H') : KT H H' := fun c o e t => s c o e fun ps z => by rw [z] at t; exact t
theorem ExtN.free {H H1 : Hp} (e : ExtN H H1) {c : Addr} (h : H1 c = none) : H c = none ∨ ∃ ps, H c = some (.tbl ps) := by
  cases z : H c with
  | none => exact .inl rfl
  | some o =>
    by_cases t : ∃ ps, o = .tbl ps
    · obtain ⟨ps, rfl⟩ := t
      exact .inr ⟨ps, rfl⟩
    · rw [e c o z fun ps y => t ⟨ps, y⟩] at h
      cases h
end Rc

namespace Rc
open PySem PySem.Spec PyProof.Rows L2 RZ LamX
theorem pi_listK {X : Cx} {K : PySem.W.Frag} {tg l : Expr} {tl : TE} (e : X.K = K) (hl : PE X l tl) : PI X tg l (iList K tl) := by
  subst e
  exact pi_list hl
theorem op_neDK {X : Cx} {K : PySem.W.Frag} (e : X.K = K) (hu : X.A.units + 64 < cLine) : OpR X (compareOp .NotEq) (rNeD K) := by
  subst e
  exact op_neD hu
theorem op_in_seqS {X : Cx} {K : PySem.W.Frag} (e : X.K = K) : OpR X (compareOp .In) (rIn K false) := by
  subst e
  exact op_in_seq
theorem call_isiS {X : Cx} {K : PySem.W.Frag} (e : X.K = K) : CallR X (.builtin "isinstance") (rIsi K) := by
  subst e
  exact call_isi
theorem cr_sortedSK {X : Cx} {K : PySem.W.Frag} (e : X.K = K) : CallR X (.builtin "sorted") (rSortedS K) := by
  subst e
  exact cr_sortedS
theorem call_reprS {X : Cx} {K : PySem.W.Frag} (e : X.K = K) {k : Nat} (hr : Room k X.A) (hg : X.A.guards = some []) : CallR X (.builtin "repr") (rRepr K) := by
  subst e
  exact call_repr hr hg
section
variable {P : Program} {w : World} {K : PySem.W.Frag} {mg : Str → Option Value} {base : Heap}
/-- a def whose code object is known, no repr being under way -/
theorem okGC {x qual : Str} {st : Stmt} {f c : Addr} {fd : FuncData} {N ps : List Str} {k : Nat} {sp : Sp} (F : Fun K x qual st f fd) (hc : fd.code = .ref c) (S : FnScope N ps (defScope st)) (len : ∀ vs H Q E, sp vs H Q E → vs.length = ps.length)
    (body : ∀ (A : Around) (outer : List Env) (s : Shared) (H : Hp) (vs : List V) (Q : VK) (E : XK), Room k (A.deeper (envOfC qual (defScope st) s.heap.objs.size f (.ref c))) → A.guards = some [] → sp vs H Q E →
      ∃ t, PSs (cxOf CX0 P w K mg base N qual (defScope st) f (.ref c) A outer s H E).nox (defBody st) t ∧ t { nx := fun _ H' => Q .non H', rt := Q } (start N vs) H) : FnG P w K mg base CX0 (k + 1) f fd ps sp := by
  obtain ⟨oc, od, kV, doc, pm, an, cdv, ct, osl, rfl, lk, hcd⟩ := F.ex
  have hc : cdv = .ref c := hc
  subst hc
  refine ⟨len, fun A outer s H args us vs Q E hr hg e0 hb r hsp => ?_⟩
  have hl := len vs H Q E hsp
  have keep : ∀ b o, base.get? b = some o → s.heap.get? b = some o := fun b o e => (e0.bs b o e).1
  have KX : K.In s.heap := e0.mod.kin.keeps keep
  refine codeAny_call_function hr.depth (KX _ _ lk) rfl S.co S.gen rfl (PySem.W.codeRec_of KX hcd) (hb _ _ _ _ ?_)
  refine wpAny_newFunctionEnv_cells S.kind (fun y hy => ?_) fun env he s1 x => ?_
  · obtain ⟨n, v⟩ := y
    exact (S.par n (List.of_mem_zip hy).1).elim .inl fun q => .inr ⟨q, PySem.W.cellsFrom_some _ _ _ (.inl q)⟩
  · subst he
    refine ⟨(e0.mod.nolimit.keeps keep).keeps x.toInCall.keep, codeAny_func ?_⟩
    obtain ⟨t, ht, hq⟩ := body A outer s H vs Q E (hr.deeper _) hg hsp
    have I := inv_start (CX := CX0) (E := E) S hr.hd e0 hl r x
    refine wpAny_mono (ht.nox.run [] s1 (start N vs) H _ I hq) (fun fl s' hs => ?_) fun _ _ z => z
    cases fl with
    | ret u =>
      obtain ⟨v, σ', H', J, rv, q⟩ := hs
      exact ⟨v, H', J.os, J.bare, J.base, J.hok, rv, q⟩
    | next =>
      obtain ⟨σ', H', J, q⟩ := hs
      exact ⟨.non, H', J.os, J.bare, J.base, J.hok, rfl, q⟩
    | brk =>
      obtain ⟨_, _, _, q⟩ := hs
      exact q.elim
    | cont =>
      obtain ⟨_, _, _, q⟩ := hs
      exact q.elim
/-! ### _law_rings_right -/
abbrev sLRr : Stmt := topS 45
abbrev nLRr : List Str := ["_law_model_here", "_law_book", "_law_leads_here", "_law_names_here", "_law_told", "_law_seen", "_law_one", "_law_who"]
theorem scLRr : FnScope nLRr ["_law_model_here", "_law_book"] (defScope sLRr) := ⟨rfl, rfl, rfl, by decide +kernel, rfl, by decide +kernel, by decide +kernel⟩
/-- the lambda's name -/
def qLam34 : Str := ("_law_rings_right" : Str) ++ ".<locals>." ++ "<lambda>"
/-- the scope of the comprehension around another -/
abbrev scRrO : Scope := { kind := .function, names := [(".0", .local), ("_law_who", .cell), ("repr", .globalImplicit), ("ring_of", .globalImplicit), ("_law_book", .cell), ("_law_told", .cell)], isGenerator := false, isCoroutine := false }
def spLRr (K : PySem.W.Frag) (C : Addr) (T : List (Addr × Str)) : Sp := fun vs H Q _ => ∃ (a : MdA) (D : Md) (zs : List Str) (b : Addr), vs = [.ref a.m, .ref b] ∧ ModelAt K H zs a D ∧ BookAt K C H b (bkOf zs D) ∧ Gs zs D ∧ Tabs T H ∧ ∀ H', ExtN H H' → Tabs T H' → Q (.bl true) H'
set_option maxHeartbeats 4000000 in
theorem ok_lrr {f f1 f2 f3 f4 C c PT : Addr} {fd fd1 fd2 fd3 fd4 : FuncData} {T : List (Addr × Str)} (F : Fun K "_law_rings_right" "_law_rings_right" sLRr f fd) (hcd : fd.code = .ref c) (TB : TabB base mg c PT) (hmT : (PT, qLam34) ∈ T) (hu' : ∀ p ∈ T, p.1 = PT → p.2 = qLam34)
    (B : Blt mg) (B2 : Blt2 mg) (B3 : Blt3 mg) (gS : mg "sorted" = none) (LE : Has P w K mg base 3 "_law_leads" ["_law_model_here"] (spLLe K) f1 fd1) (AR : Has P w K mg base 8 "all_rings" ["book"] (spArs K C) f2 fd2)
    (CB : Has P w K mg base 1 "_law_comes_back" ["_law_leads_here", "_law_who"] spLCb f3 fd3) (RO : Has P w K mg base 8 "ring_of" ["book", "who"] (spRgO K C) f4 fd4) : FnG P w K mg base CX0 10 f fd ["_law_model_here", "_law_book"] (spLRr K C T) := by
  refine okGC F hcd scLRr (fun vs H Q E h => ?_) (fun Ar outer s H vs Q E hr hgd h => ?_)
  · obtain ⟨_, _, _, _, rfl, _⟩ := h
    rfl
  · obtain ⟨a, D, zs, b, rfl, hM, hb, g, hT, q⟩ := h
    have hu := hu_of hr
    have hu64 := hr.units
    have hr1 := hr.mono (show 1 ≤ 9 by decide)
    have hr3 := hr.mono (show 3 ≤ 9 by decide)
    have hr8 := hr.mono (show 8 ≤ 9 by decide)
    refine ⟨_, (pss_cons (ps_set (i := 2) scLRr.nd rfl (.inr rfl) (pe_call LE.ok hr3 (by rfl) LE.g LE.kp LE.b .nil pass0 (pa_cons (pv 0) pa_nil))) (pss_cons (ps_set (i := 3) scLRr.nd rfl (.inr rfl) (pe_dget hu (pv 0) pe_str (fun _ _ => rfl))) (pss_cons (ps_set (i := 4) scLRr.nd rfl (.inr rfl) (pe_call AR.ok hr8 (by rfl) AR.g AR.kp AR.b .nil pass0 (pa_cons (pv 1) pa_nil))) (pss_cons (ps_if (PW.pt (pw_or (pt_not (pt_val (pe_callB (call_isiS (K := K) rfl) (by rfl) B.isi (by decide +kernel) (pa_cons (pv 4) (pa_cons (pe_bltn (v := .ty "list") (by rfl) B3.list (by decide +kernel) rfl) pa_nil))))) (pw_or1 (pt_not (pt_val (pe_callB (cr_all rfl) (by rfl) B.all (by decide +kernel) (pa_cons (pe_lc (own := [("_law_one", 6)]) (g := gName 6) (tt := tYes) rfl scLRr.nd (pi_listK (K := K) rfl (pv 4)) (blkOk_by (N := nLRr) (sc := defScope sLRr) (own := [("_law_one", 6)]) (by decide +kernel)) (fun _ _ _ _ _ => (pg_name (i := 6) scLRr.nd rfl (.inl rfl) (hf := .inr rfl))) (fun _ _ _ _ _ => pts_nil) (fun _ _ _ _ _ => (pe_and (pe_callB (call_isiS (K := K) rfl) (by rfl) B.isi (by decide +kernel) (pa_cons (pv 6) (pa_cons (pe_bltn (v := .ty "list") (by rfl) B3.list (by decide +kernel) rfl) pa_nil))) (pe_one (pe_cmpR (op_neDK (K := K) rfl hu64) (pv 6) (pe_lst pa_nil) (by rfl)))))) pa_nil))))))) (pss_one (ps_ret pe_bl)) pss_nil) (pss_cons (ps_set (i := 5) scLRr.nd rfl (.inl rfl) (pe_lst pa_nil)) (C8.pss_cut (ps_for PassesOwn.never rfl (pi_list (pv 4)) (pg_name (i := 6) scLRr.nd rfl (.inl rfl)) (pss_cons (ps_if (pt_cmpR op_ne (pe_callB (cr_min rfl) (by rfl) B2.min (by decide +kernel) (pa_cons (pe_lc (own := [("_law_who", 7)]) (g := gName 7) (tt := tYes) rfl scLRr.nd (pi_listK (K := K) rfl (pv 6)) (blkOk_by (N := nLRr) (sc := defScope sLRr) (own := [("_law_who", 7)]) (by decide +kernel)) (fun _ _ _ _ _ => (pg_name (i := 7) scLRr.nd rfl (.inl rfl) (hf := .inr rfl))) (fun _ _ _ _ _ => pts_nil) (fun _ _ _ _ _ => (pe_bmK (K := K) rfl PySem.F.plainAttrs_list PySem.F.slot_list_index PySem.F.type_list_index (mt_indexS (K := K) rfl) (pv 3) (pa_cons (pv 7) pa_nil)))) pa_nil)) (pe_bm PySem.F.plainAttrs_list PySem.F.slot_list_index PySem.F.type_list_index mt_index (pv 3) (pa_cons (pe_ix ix_list (pv 6) pe_int (fun _ _ => rfl)) pa_nil)) (nomark _)) (pss_one (ps_ret pe_bl)) pss_nil) (pss_cons (ps_if (pt_cmpR (op_neDK (K := K) rfl hu64) (pe_lc (own := [("_law_who", 7)]) (g := gName 7) (tt := tYes) rfl scLRr.nd (pi_listK (K := K) rfl (pv 6)) (blkOk_by (N := nLRr) (sc := defScope sLRr) (own := [("_law_who", 7)]) (by decide +kernel)) (fun _ _ _ _ _ => (pg_name (i := 7) scLRr.nd rfl (.inl rfl) (hf := .inr rfl))) (fun _ _ _ _ _ => pts_nil) (fun _ _ _ _ _ => (pe_dget hu (pv 2) (pv 7) (fun _ _ => rfl)))) (pe_op op_cat (pe_slice sl_list (pv 6) (po_some pe_int) po_none) (pe_slice sl_list (pv 6) po_none (po_some pe_int))) (nomark _)) (pss_one (ps_ret pe_bl)) pss_nil) (pss_one (ps_set (i := 5) scLRr.nd rfl (.inl rfl) (pe_op op_cat (pv 5) (pv 6))))))) (C8.pss_cut (ps_if (pt_cmpR (op_neDK (K := K) rfl hu64) (pe_callB (cr_sortedSK (K := K) rfl) (by rfl) gS (by decide +kernel) (pa_cons (pv 5) pa_nil)) (pe_callB (cr_sortedSK (K := K) rfl) (by rfl) gS (by decide +kernel) (pa_cons (pe_lc (own := [("_law_who", 7)]) (g := gName 7) rfl scLRr.nd (pi_listK (K := K) rfl (pv 3)) (blkOk_by (N := nLRr) (sc := defScope sLRr) (own := [("_law_who", 7)]) (by decide +kernel)) (fun _ _ _ _ _ => (pg_name (i := 7) scLRr.nd rfl (.inl rfl) (hf := .inr rfl))) (fun _ _ _ _ _ => pts_one (pt_val (pe_call CB.ok hr1 (by rfl) CB.g CB.kp CB.b .nil pass0 (pa_cons (pv 2) (pa_cons (pv 7) pa_nil))))) (fun _ _ _ _ _ => (pv 7))) pa_nil)) (nomark _)) (pss_one (ps_ret pe_bl)) pss_nil) (C8.pss_cut (ps_if (pt_cmpR (op_neDK (K := K) rfl hu64) (pe_lc (own := [("_law_one", 6)]) (g := gName 6) (tt := tYes) rfl scLRr.nd (pi_listK (K := K) rfl (pv 4)) (blkOk_by (N := nLRr) (sc := defScope sLRr) (own := [("_law_one", 6)]) (by decide +kernel)) (fun _ _ _ _ _ => (pg_name (i := 6) scLRr.nd rfl (.inl rfl) (hf := .inr rfl))) (fun _ _ _ _ _ => pts_nil) (fun _ _ _ _ _ => (pe_ix (ix_listS (K := K) rfl) (pv 6) pe_int (fun _ _ => rfl)))) (pe_sortlam (T := T) (k := 1) (io := 7) (x := "_law_who") rfl (by rfl) gS (pa_cons (pe_lc (own := [("_law_one", 6)]) (g := gName 6) (tt := tYes) rfl scLRr.nd (pi_listK (K := K) rfl (pv 4)) (blkOk_by (N := nLRr) (sc := defScope sLRr) (own := [("_law_one", 6)]) (by decide +kernel)) (fun _ _ _ _ _ => (pg_name (i := 6) scLRr.nd rfl (.inl rfl) (hf := .inr rfl))) (fun _ _ _ _ _ => pts_nil) (fun _ _ _ _ _ => (pe_ix (ix_listS (K := K) rfl) (pv 6) pe_int (fun _ _ => rfl)))) pa_nil) TB rfl hmT hu' (hr.mono (by decide)) (show LamS1 (defScope sLRr) _ _ from ⟨rfl, rfl, rfl, by decide +kernel, rfl, by decide +kernel⟩) scLRr.nd rfl rfl (fun _ _ _ _ _ _ => rfl) (fun A s H f c' hrL => (pe_bmK (K := K) rfl PySem.F.plainAttrs_list PySem.F.slot_list_index PySem.F.type_list_index (mt_indexS (K := K) rfl) (pv 3) (pa_cons (pv 7) pa_nil)))) (nomark _)) (pss_one (ps_ret pe_bl)) pss_nil) (pss_one (ps_ret (pe_callB (cr_all rfl) (by rfl) B.all (by decide +kernel) (pa_cons (pe_lc (own := [("_law_who", 7)]) (g := gName 7) (tt := tYes) rfl scLRr.nd (pi_listK (K := K) rfl (pv 3)) (blkOk_by (N := nLRr) (sc := defScope sLRr) (own := [("_law_who", 7)]) (by decide +kernel)) (fun _ _ _ _ _ => (pg_name (i := 7) scLRr.nd rfl (.inr rfl) (hf := .inl rfl))) (fun _ _ _ _ _ => pts_nil) (fun _ _ _ _ _ => (pe_cmpR op_eq (pe_callB (call_reprS (K := K) rfl hr hgd) (by rfl) B2.repr (by decide +kernel) (pa_cons (pe_call RO.ok hr8 (by rfl) RO.g RO.kp RO.b .nil pass0 (pa_cons (pv 1) (pa_cons (pv 7) pa_nil))) pa_nil)) (pe_callB (call_reprS (K := K) rfl hr hgd) (by rfl) B2.repr (by decide +kernel) (pa_cons (pe_ix (ix_listS (K := K) rfl) (pe_op op_cat (pe_lc (own := [("_law_one", 6)]) (g := gName 6) rfl scLRr.nd (pi_listK (K := K) rfl (pv 4)) (blkOk_by (N := nLRr) (sc := scRrO) (own := [("_law_one", 6)]) (by decide +kernel)) (fun _ _ _ _ _ => (pg_name (i := 6) scLRr.nd rfl (.inl rfl) (hf := .inr rfl))) (fun _ _ _ _ _ => pts_one (pt_cmpR (op_in_seqS (K := K) rfl) (pv 7) (pv 6) (by rfl))) (fun _ _ _ _ _ => (pv 6))) (pe_lst (pa_cons pe_non pa_nil))) pe_int (fun _ _ => rfl)) pa_nil)) (by rfl)))) pa_nil)))))))))))), ?_⟩
    have kLL : PySem.W.kitOne K (.type "list") (.type "list") = some true := kit_ty (a := "list") (b := "list") (r := true) (by decide +kernel)
    have wk := g.walks
    have ld := wk.ld
    have lz := wk.lz
    have nd := g.nz.nd
    have n0 := g.nz.n0
    refine ⟨.ref a.m, rfl, a, D, zs, rfl, hM, g, fun d H1 s1 nrd hd => ?_⟩
    refine ⟨.ref a.m, rfl, a.m, .ref a.lo, rfl, (model_same hM s1).g0, ?_⟩
    refine ⟨.ref b, rfl, b, bkOf zs D, rfl, book_same hb s1, g.ok, g.closed, fun r as H2 s2 nr hr' ra => ?_⟩
    have ra : RingsAt H1 H2 r as (ringsM zs (nxD zs D) zs) := ra
    have rk := rings_ok g
    have rnf : ∀ x ∈ ringsM zs (nxD zs D) zs, ∃ f, RingN zs (nxD zs D) x f := fun x hx => rings_nf ld hx
    have s02 := s1.trans s2
    have hd2 := s2 _ _ hd
    have hlo2 := s02 _ _ hM.ho
    have eR := rings_flat (nx := nxD zs D) ld nd
    have eA := rings_asc (nx := nxD zs D) ld nd
    have eO : ∀ z ∈ zs, ((ringsM zs (nxD zs D) zs).filter fun x => decide (z ∈ x)).head? = ringM zs (nxD zs D) z := fun z hz => rings_of ld hz
    generalize hRR : ringsM zs (nxD zs D) zs = R at ra rk rnf eR eA eO
    have lR : as.length = R.length := Paired.length ra
    have las : (as.map V.ref).length = R.length := by rw [List.length_map, lR]
    have l12 := rk.2
    -- each of the list
    have ring_at : ∀ {G : Hp} {i : Nat} {x : V}, Same H2 G → i < R.length → (as.map V.ref)[i]? = some x → ∃ c, x = .ref c ∧ ∃ y f, R[i]? = some y ∧ y ∈ R ∧ RingN zs (nxD zs D) y f ∧ G c = some (.lst (y.map V.str)) := fun {G i x} s hi hx => by
      have ey : R[i]? = some R[i] := List.getElem?_eq_getElem hi
      obtain ⟨c, ec, hc⟩ := ra.get ey
      rw [List.getElem?_map, ec] at hx
      have hy : R[i] ∈ R := List.getElem_mem hi
      obtain ⟨f, n⟩ := rnf _ hy
      exact ⟨c, (Option.some.inj hx).symm, _, f, ey, hy, n, s _ _ hc⟩
    refine ⟨.ref r, rfl, _, .ty "list", _, _, true, rfl, .ty "list", (rings_dt ra hr').ty, kLL, _, rfl, iteF ?_⟩
    refine ⟨.ref r, rfl, r, rfl, ⟨_, .inl (.inl hr')⟩, fun L1 nL1 => ?_⟩
    refine lc_it (walk_list (K := K) (a := r) (xs := as.map V.ref)) (fun i H' => Same H2 H' ∧ H' L1 = some (.lst ((List.replicate i true).map V.bl))) ⟨same_upd nL1, upd_same⟩ (fun i H' _ hP => .inl (.inl (hP.1 _ _ hr'))) (fun i x H3' H3 hi hP hY => ?_) (fun H3 hP => ?_)
    · obtain ⟨rfl, hx⟩ := hY
      obtain ⟨s3, h3⟩ := hP
      rw [las] at hi
      obtain ⟨c, rfl, y, f, ey, hy, n, hc⟩ := ring_at s3 hi hx
      refine ⟨rfl, .ref c, rfl, _, .ty "list", _, _, true, rfl, .ty "list", (Dt.lst (.inl (.inl hc)) (DtAll.strs _)).ty, kLL, _, rfl, iteT ?_⟩
      refine ⟨.ref c, rfl, Nat.zero_le _, fun e ne => ?_⟩
      have s4 := same_upd (o := .lst []) ne
      have he : upd H3 e (.lst []) e = some (.lst []) := upd_same
      generalize upd H3 e (.lst []) = H4 at s4 he
      have yne : y ≠ [] := fun z => by
        have := n.l0
        rw [z] at this
        cases this
      refine ⟨_, _, strs_dp (s4 _ _ hc), .lst (.inl (.inl he)) .nil, shaped_strs (rk.1 y hy).1, shaped_nil, ?_⟩
      rw [list_some yne]
      refine ⟨_, s4 _ _ h3, by rw [List.length_map, List.length_replicate]; exact small1000 (by omega), fun c o ec => ?_, ?_⟩
      · rw [upd_ne (ne_of_none ec nL1)]
        exact s4 _ _ (s3 c o ec)
      · rw [upd_same, List.replicate_succ', List.map_append]
        rfl
    · obtain ⟨s3, h3⟩ := hP
      rw [las] at h3
      refine ⟨L1, List.replicate R.length true, rfl, .inl (.inl h3), _, rfl, ?_⟩
      rw [show (List.replicate R.length true).all id = true from by simp]
      refine iteF ⟨Nat.zero_le _, fun sn nsn => ?_⟩
      have s4 := same_upd (o := .lst []) nsn
      have hsn : upd H3 sn (.lst []) sn = some (.lst []) := upd_same
      generalize upd H3 sn (.lst []) = H4 at s4 hsn
      have s24 := s3.trans s4
      clear h3 nL1 nsn
      refine ⟨fun σ' H' => ∃ sn' y6, σ' = [some (.ref a.m), some (.ref b), some (.ref d), some (.ref a.lo), some (.ref r), some (.ref sn'), y6, none] ∧ Same H2 H' ∧ H' sn' = some (.lst (R.flatten.map V.str)), ?_, ?_⟩
      · refine ⟨.ref r, rfl, r, rfl, ⟨_, .inl (.inl (s24 _ _ hr'))⟩, ?_⟩
        refine for_it (walk_list (K := K) (a := r) (xs := as.map V.ref)) (fun i σ H' => ∃ sn' y6, σ = [some (.ref a.m), some (.ref b), some (.ref d), some (.ref a.lo), some (.ref r), some (.ref sn'), y6, none] ∧ Same H2 H' ∧ H' sn' = some (.lst ((R.take i).flatten.map V.str))) ⟨sn, _, rfl, s24, hsn⟩ (fun i σ H' _ hP => ?_) (fun i x σ H5' H5 hi hP hY => ?_) (fun σ H5 hP => ?_)
        · obtain ⟨_, _, _, s5, _⟩ := hP
          exact .inl (.inl (s5 _ _ hr'))
        · obtain ⟨rfl, hx⟩ := hY
          obtain ⟨sn', y6, rfl, s5, hsn5⟩ := hP
          rw [las] at hi
          obtain ⟨c, rfl, y, f, ey, hy, n, hc⟩ := ring_at s5 hi hx
          have ly := (rk.1 y hy).2
          have oky := (rk.1 y hy).1
          have lym : (y.map V.str).length = y.length := List.length_map ..
          have hfm := n.mem
          have fin := first_in nd ⟨f, hfm, n.fz⟩ n.fr
          -- the least place
          refine ⟨.ref c, rfl, c, rfl, ⟨_, .inl (.inl hc)⟩, fun L2 nL2 => ?_⟩
          refine lc_it (walk_list (K := K) (a := c) (xs := y.map V.str)) (fun j H' => Same H5 H' ∧ H' L2 = some (.lst (((y.take j).map fun x => ((zs.idxOf x : Nat) : Int)).map V.int))) ⟨same_upd nL2, upd_same⟩ (fun j H' _ hP => .inl (.inl (hP.1 _ _ hc))) (fun j v H6' H6 hj hP hY => ?_) (fun H6 hP => ?_)
          · obtain ⟨rfl, hv⟩ := hY
            rw [lym] at hj
            have ex : v = .str y[j] := by
              rw [List.getElem?_map, List.getElem?_eq_getElem hj] at hv
              exact (Option.some.inj hv).symm
            subst ex
            have hin : y[j] ∈ zs := n.sub _ (List.getElem_mem hj)
            have hlo6 := hP.1 _ _ (s5 _ _ hlo2)
            refine ⟨rfl, .ref a.lo, rfl, .inl ⟨rfl, _, .inl (.inl hlo6)⟩, _, rfl, a.lo, _, _, zs.idxOf y[j], .str y[j], rfl, rfl, .inl (.inl hlo6), rfl, flat_strs _, map_get (idx_get hin), by rw [str_eqV]; simp, fun m z' hm e' => ?_, _, hP.2, ?_, fun c o ec => ?_, ?_⟩
            · rw [List.getElem?_map] at e'
              obtain ⟨x', ex, rfl⟩ := Option.map_eq_some_iff.mp e'
              rw [str_eqV]
              exact beq_eq_false_iff_ne.mpr (idx_first hm ex)
            · rw [List.length_map, List.length_map, List.length_take]
              exact small1000 (by omega)
            · rw [upd_ne (ne_of_none ec nL2)]
              exact hP.1 c o ec
            · rw [upd_same, take_succ hj, List.map_append, List.map_append]
              rfl
          obtain ⟨s6, h6⟩ := hP
          rw [lym, List.take_length] at h6
          refine ⟨L2, y.map fun x => ((zs.idxOf x : Nat) : Int), rfl, .inl (.inl h6), by rw [List.length_map]; exact n.l0, fun m hm hmin => ?_⟩
          have em : m = (zs.idxOf f : Int) := by
            obtain ⟨f0, hf0, rfl⟩ := List.mem_map.mp hm
            have h1 := hmin _ (List.mem_map.mpr ⟨f, hfm, rfl⟩)
            have h2 := fin.2.2 f0 hf0
            have h1 : (zs.idxOf f0 : Int) ≤ (zs.idxOf f : Int) := h1
            show ((zs.idxOf f0 : Nat) : Int) = _
            omega
          subst em
          have hc6 := s6 _ _ hc
          have hlo6 := s6 _ _ (s5 _ _ hlo2)
          have y0 : y[0]? = some f := by
            rw [← List.head?_eq_getElem?]
            exact n.head
          refine ⟨.ref a.lo, rfl, .inl ⟨rfl, _, .inl (.inl hlo6)⟩, .ref c, rfl, c, _, 0, .str f, rfl, rfl, .inl (.inl hc6), atI_nat (j := 0) (map_get y0), ?_⟩
          refine ⟨a.lo, _, .str f, zs.idxOf f, .str f, rfl, rfl, .inl (.inl hlo6), rfl, flat_strs _, map_get (idx_get n.fz), by rw [str_eqV]; simp, fun m z' hm e' => ?_, ?_⟩
          · rw [List.getElem?_map] at e'
            obtain ⟨x', ex, rfl⟩ := Option.map_eq_some_iff.mp e'
            rw [str_eqV]
            exact beq_eq_false_iff_ne.mpr (idx_first hm ex)
          refine ⟨rfl, _, rfl, ?_⟩
          rw [show decide (V.int ((zs.idxOf f : Nat) : Int) = V.int ((zs.idxOf f : Nat) : Int)) = true from decide_eq_true rfl]
          refine iteF ?_
          -- to whom they lead
          refine ⟨.ref c, rfl, c, rfl, ⟨_, .inl (.inl hc6)⟩, fun L3 nL3 => ?_⟩
          refine lc_it (walk_list (K := K) (a := c) (xs := y.map V.str)) (fun j H' => Same H6 H' ∧ H' L3 = some (.lst ((y.take j).map (leadF zs D)))) ⟨same_upd nL3, upd_same⟩ (fun j H' _ hP => .inl (.inl (hP.1 _ _ hc6))) (fun j v H7' H7 hj hP hY => ?_) (fun H7 hP => ?_)
          · obtain ⟨rfl, hv⟩ := hY
            rw [lym] at hj
            have ex : v = .str y[j] := by
              rw [List.getElem?_map, List.getElem?_eq_getElem hj] at hv
              exact (Option.some.inj hv).symm
            subst ex
            have hin : y[j] ∈ zs := n.sub _ (List.getElem_mem hj)
            have hd7 := hP.1 _ _ (s6 _ _ (s5 _ _ hd2))
            refine ⟨rfl, .ref d, rfl, _, rfl, d, leadF zs D y[j], rfl, ?_, _, hP.2, ?_, fun c o ec => ?_, ?_⟩
            · rw [← dctF_val (f := leadF zs D) hin]
              exact DGet.k (k := Sum.inr y[j]) hd7
            · rw [List.length_map, List.length_take]
              exact small1000 (by omega)
            · rw [upd_ne (ne_of_none ec nL3)]
              exact hP.1 c o ec
            · rw [upd_same, take_succ hj, List.map_append]
              rfl
          obtain ⟨s7, h7⟩ := hP
          rw [lym, List.take_length] at h7
          have eL : y.map (leadF zs D) = (y.drop 1 ++ y.take 1).map V.str := by
            have := congrArg (List.map nxV) n.next
            rw [List.map_map, List.map_map] at this
            exact this
          rw [eL] at h7
          have hc7 := s7 _ _ hc6
          refine ⟨.ref c, rfl, _, rfl, c, _, rfl, .inl (.inl hc7), fun p1 n1 => ?_⟩
          rw [show cutV (y.map V.str) (some 1) none = (y.drop 1).map V.str from (cut_drop _ 1).trans List.map_drop.symm]
          have s8 := same_upd (o := .lst ((y.drop 1).map V.str)) n1
          refine ⟨.ref c, rfl, _, rfl, c, _, rfl, .inl (.inl (s8 _ _ hc7)), fun p2 n2 => ?_⟩
          rw [show cutV (y.map V.str) none (some 1) = (y.take 1).map V.str from (cut_take _ 1).trans List.map_take.symm]
          have s9 := same_upd (o := .lst ((y.take 1).map V.str)) n2
          refine ⟨p1, p2, _, _, rfl, rfl, s9 _ _ upd_same, upd_same, ?_, fun p np => ?_⟩
          · rw [List.length_map, List.length_map, List.length_drop, List.length_take]
            exact small_line (by omega)
          rw [← List.map_append]
          have s10 := same_upd (o := .lst ((y.drop 1 ++ y.take 1).map V.str)) np
          have hp10 : upd (upd (upd H7 p1 (.lst ((y.drop 1).map V.str))) p2 (.lst ((y.take 1).map V.str))) p (.lst ((y.drop 1 ++ y.take 1).map V.str)) p = some (.lst ((y.drop 1 ++ y.take 1).map V.str)) := upd_same
          have s710 := s8.trans (s9.trans s10)
          generalize upd (upd (upd H7 p1 (.lst ((y.drop 1).map V.str))) p2 (.lst ((y.take 1).map V.str))) p (.lst ((y.drop 1 ++ y.take 1).map V.str)) = H10 at hp10 s710
          have okr : ∀ x ∈ y.drop 1 ++ y.take 1, nameT x = true := fun x hx => by
            rcases List.mem_append.mp hx with h | h
            · exact oky x (List.mem_of_mem_drop h)
            · exact oky x (List.mem_of_mem_take h)
          refine ⟨_, _, strs_dp (s710 _ _ h7), strs_dp hp10, shaped_strs okr, shaped_strs okr, _, rfl, ?_⟩
          rw [list_self]
          have s510 := s6.trans (s7.trans s710)
          refine iteF ⟨.ref sn', rfl, .ref c, rfl, sn', c, _, _, rfl, rfl, s510 _ _ hsn5, s710 _ _ hc7, ?_, fun p3 n3 => ?_⟩
          · rw [List.length_map, lym]
            have := flat_len l12 (fun x hx => (rk.1 x hx).2) i
            exact small_line (by omega)
          refine ⟨p3, _, rfl, s5.trans (s510.trans (same_upd n3)), ?_⟩
          rw [upd_same, ← List.map_append, take_get ey, List.flatten_append]
          simp
        · obtain ⟨sn', y6, rfl, s5, hsn5⟩ := hP
          rw [las, List.take_length] at hsn5
          exact ⟨_, _, rfl, s5, hsn5⟩
      · rintro σ5 H5 ⟨sn', y6, rfl, s5, hsn5⟩
        have lF : R.flatten.length ≤ 12 := by
          rw [eR.length_eq]
          exact Nat.le_trans (List.length_filter_le _ _) lz
        have okF : ∀ x ∈ R.flatten, nameT x = true := fun x hx => by
          obtain ⟨y, hy, hxy⟩ := List.mem_flatten.mp hx
          exact (rk.1 y hy).1 x hxy
        have lzm : (zs.map V.str).length = zs.length := List.length_map ..
        have hlo5 := s5 _ _ hlo2
        have hd5 := s5 _ _ hd2
        have at_z : ∀ {i : Nat} {v : V}, i < zs.length → (zs.map V.str)[i]? = some v → ∃ hh : i < zs.length, v = .str zs[i] := fun {i v} hi hv => ⟨hi, by
          rw [List.getElem?_map, List.getElem?_eq_getElem hi] at hv
          exact (Option.some.inj hv).symm⟩
        -- all of them, sorted
        refine ⟨fun σ' H' => σ' = [some (.ref a.m), some (.ref b), some (.ref d), some (.ref a.lo), some (.ref r), some (.ref sn'), y6, none] ∧ Same H5 H', ?_, ?_⟩
        · refine ⟨.ref sn', rfl, sn', R.flatten, rfl, .inl (.inl hsn5), by omega, fun ys1 p1 pm1 so1 np1 => ?_⟩
          have s6 := same_upd (o := .lst (ys1.map V.str)) np1
          have hp1 : upd H5 p1 (.lst (ys1.map V.str)) p1 = some (.lst (ys1.map V.str)) := upd_same
          generalize upd H5 p1 (.lst (ys1.map V.str)) = H6 at s6 hp1
          refine ⟨.ref a.lo, rfl, a.lo, rfl, ⟨_, .inl (.inl (s6 _ _ hlo5))⟩, fun L2 nL2 => ?_⟩
          refine lc_it (walk_list (K := K) (a := a.lo) (xs := zs.map V.str)) (fun i H' => Same H6 H' ∧ H' L2 = some (.lst (((zs.take i).filter fun z => (ringM zs (nxD zs D) z).isSome).map V.str))) ⟨same_upd nL2, upd_same⟩ (fun i H' _ hP => .inl (.inl (hP.1 _ _ (s6 _ _ hlo5)))) (fun i v H7' H7 hi hP hY => ?_) (fun H7 hP => ?_)
          · obtain ⟨rfl, hv⟩ := hY
            obtain ⟨s7, h7⟩ := hP
            rw [lzm] at hi
            obtain ⟨_, rfl⟩ := at_z hi hv
            have hz : zs[i] ∈ zs := List.getElem_mem hi
            rw [take_succ hi, List.filter_append]
            generalize zs[i] = z at hz
            refine ⟨rfl, .ref d, rfl, .str z, rfl, d, D, zs, z, rfl, s7 _ _ (s6 _ _ hd5), g, hz, _, rfl, ?_⟩
            cases hb : (ringM zs (nxD zs D) z).isSome with
            | false =>
              refine iteF ⟨s7, ?_⟩
              rw [h7]
              simp [hb]
            | true =>
              refine iteT ⟨.str z, rfl, _, h7, ?_, fun c o ec => ?_, ?_⟩
              · rw [List.length_map]
                refine Nat.lt_of_le_of_lt (List.length_filter_le _ _) ?_
                rw [List.length_take]
                exact small1000 (by omega)
              · rw [upd_ne (ne_of_none ec nL2)]
                exact s7 c o ec
              · rw [upd_same]
                simp [hb]
          obtain ⟨s7, h7⟩ := hP
          rw [lzm, List.take_length] at h7
          refine ⟨L2, _, rfl, .inl (.inl h7), by rw [← eR.length_eq]; omega, fun ys2 p2 pm2 so2 np2 => ?_⟩
          have es : ys1 = ys2 := sorted_same (pm1.trans eR) pm2 so1 so2
          subst es
          have s8 := same_upd (o := .lst (ys1.map V.str)) np2
          have ok1 : ∀ x ∈ ys1, nameT x = true := fun x hx => okF x (pm1.mem_iff.mp hx)
          refine ⟨_, _, strs_dp (s8 _ _ (s7 _ _ hp1)), strs_dp upd_same, shaped_strs ok1, shaped_strs ok1, _, rfl, ?_⟩
          rw [list_self]
          exact iteF ⟨rfl, s6.trans (s7.trans s8)⟩
        rintro σ6 H6 ⟨rfl, s6⟩
        have s26 := s5.trans s6
        have t6 : Tabs T H6 := hT.ext (s02.trans s26)
        -- by their first persons in order
        have hds : ∀ {G : Hp} {i : Nat} {x : V}, Same H2 G → i < R.length → (as.map V.ref)[i]? = some x → ∃ c y, x = .ref c ∧ R[i]? = some y ∧ G c = some (.lst (y.map V.str)) ∧ y[0]? = some (rd y 0) := fun {G i x} s hi hx => by
          obtain ⟨c, e, y, f, ey, hy, n, hc⟩ := ring_at s hi hx
          exact ⟨c, y, e, ey, hc, by rw [n.r0, ← List.head?_eq_getElem?]; exact n.head⟩
        have okH : ∀ x ∈ R.map fun y => rd y 0, nameT x = true ∧ x ∈ zs := fun x hx => by
          obtain ⟨y, hy, rfl⟩ := List.mem_map.mp hx
          obtain ⟨f, n⟩ := rnf y hy
          show nameT (rd y 0) = true ∧ rd y 0 ∈ zs
          rw [n.r0]
          exact ⟨g.nz.nm _ n.fz, n.fz⟩
        have lcH : ∀ {G G' : Hp} {L : Addr} {i : Nat} {x : V} {E : Hp}, G L = none → Same G E → E L = some (.lst (((R.take i).map fun y => rd y 0).map V.str)) → i < R.length → ∀ {y : List Str}, R[i]? = some y → (((R.take i).map fun y => rd y 0).map V.str).length < sizeLine ∧ Same G (upd E L (.lst (((R.take i).map fun y => rd y 0).map V.str ++ [.str (rd y 0)]))) ∧ upd E L (.lst (((R.take i).map fun y => rd y 0).map V.str ++ [.str (rd y 0)])) L = some (.lst (((R.take (i + 1)).map fun y => rd y 0).map V.str)) := fun {G G' L i x E} nL s h hi {y} ey => by
          refine ⟨?_, fun c o ec => ?_, ?_⟩
          · rw [List.length_map, List.length_map, List.length_take]
            exact small1000 (by omega)
          · rw [upd_ne (ne_of_none ec nL)]
            exact s c o ec
          · rw [upd_same, take_get ey, List.map_append, List.map_append]
            rfl
        refine ⟨fun σ' H' => σ' = [some (.ref a.m), some (.ref b), some (.ref d), some (.ref a.lo), some (.ref r), some (.ref sn'), y6, none] ∧ ExtN H6 H' ∧ Tabs T H', ?_, ?_⟩
        · refine ⟨.ref r, rfl, r, rfl, ⟨_, .inl (.inl (s26 _ _ hr'))⟩, fun L1 nL1 => ?_⟩
          refine lc_it (walk_list (K := K) (a := r) (xs := as.map V.ref)) (fun i H' => Same H6 H' ∧ H' L1 = some (.lst (((R.take i).map fun y => rd y 0).map V.str))) ⟨same_upd nL1, upd_same⟩ (fun i H' _ hP => .inl (.inl (hP.1 _ _ (s26 _ _ hr')))) (fun i x H7' H7 hi hP hY => ?_) (fun H7 hP => ?_)
          · obtain ⟨rfl, hx⟩ := hY
            obtain ⟨s7, h7⟩ := hP
            rw [las] at hi
            obtain ⟨c, y, rfl, ey, hc, y0⟩ := hds (s26.trans s7) hi hx
            exact ⟨rfl, .ref c, rfl, c, _, 0, .str (rd y 0), rfl, rfl, .inl (.inl hc), atI_nat (j := 0) (map_get y0), _, h7, lcH (G' := H7) (x := .non) nL1 s7 h7 hi ey⟩
          obtain ⟨s7, h7⟩ := hP
          rw [las, List.take_length] at h7
          have s27 := s26.trans s7
          refine ⟨.ref r, rfl, r, rfl, ⟨_, .inl (.inl (s27 _ _ hr'))⟩, fun L2 nL2 => ?_⟩
          refine lc_it (walk_list (K := K) (a := r) (xs := as.map V.ref)) (fun i H' => Same H7 H' ∧ H' L2 = some (.lst (((R.take i).map fun y => rd y 0).map V.str))) ⟨same_upd nL2, upd_same⟩ (fun i H' _ hP => .inl (.inl (hP.1 _ _ (s27 _ _ hr')))) (fun i x H8' H8 hi hP hY => ?_) (fun H8 hP => ?_)
          · obtain ⟨rfl, hx⟩ := hY
            obtain ⟨s8, h8⟩ := hP
            rw [las] at hi
            obtain ⟨c, y, rfl, ey, hc, y0⟩ := hds (s27.trans s8) hi hx
            exact ⟨rfl, .ref c, rfl, c, _, 0, .str (rd y 0), rfl, rfl, .inl (.inl hc), atI_nat (j := 0) (map_get y0), _, h8, lcH (G' := H8) (x := .non) nL2 s8 h8 hi ey⟩
          obtain ⟨s8, h8⟩ := hP
          rw [las, List.take_length] at h8
          have s78 := s7.trans s8
          refine ⟨L2, _, (R.map fun y => ((zs.idxOf (rd y 0) : Nat) : Int)), rfl, h8, by rw [List.length_map, List.length_map, List.length_map], ?_, t6.ext s78, fun H9 e9 t9 => ⟨fun i x k ex ek => ?_, fun p np => ?_⟩⟩
          · rw [List.pairwise_map]
            refine eA.imp_of_mem fun {u v} hu hv h => ?_
            obtain ⟨f, nf⟩ := rnf u hu
            obtain ⟨f', nf'⟩ := rnf v hv
            have := h f f' nf nf'
            rw [nf.r0, nf'.r0]
            omega
          · have hi : i < R.length := by
              have := (List.getElem?_eq_some_iff.mp ex).1
              simpa using this
            have ey : R[i]? = some R[i] := List.getElem?_eq_getElem hi
            generalize R[i] = y at ey
            rw [map_get (f := V.str) (map_get (f := fun y => rd y 0) ey)] at ex
            rw [map_get (f := fun y => ((zs.idxOf (rd y 0) : Nat) : Int)) ey] at ek
            cases ex
            cases ek
            have hin := (okH _ (List.mem_map.mpr ⟨y, List.mem_of_getElem? ey, rfl⟩)).2
            have hlo9 := e9 _ _ (s78 _ _ (s26 _ _ hlo2)) (by intro ps z; cases z)
            refine ⟨.ref a.lo, rfl, .inl ⟨rfl, _, .inl (.inl hlo9)⟩, _, rfl, a.lo, _, _, zs.idxOf (rd y 0), .str (rd y 0), rfl, rfl, .inl (.inl hlo9), rfl, flat_strs _, map_get (idx_get hin), by rw [str_eqV]; simp, fun m z' hm e' => ?_, rfl, rfl⟩
            rw [List.getElem?_map] at e'
            obtain ⟨x', ex, rfl⟩ := Option.map_eq_some_iff.mp e'
            rw [str_eqV]
            exact beq_eq_false_iff_ne.mpr (idx_first hm ex)
          · have s10 := same_upd (o := .lst ((R.map fun y => rd y 0).map V.str)) np
            have okh : ∀ x ∈ R.map fun y => rd y 0, nameT x = true := fun x hx => (okH x hx).1
            refine ⟨_, _, strs_dp (s10 _ _ (e9 _ _ (s8 _ _ h7) (by intro ps z; cases z))), strs_dp upd_same, shaped_strs okh, shaped_strs okh, _, rfl, ?_⟩
            rw [list_self]
            exact iteF ⟨rfl, (ExtN.of s78).trans (e9.trans (ExtN.of s10)), t9.ext s10⟩
        rintro σ7 H7 ⟨rfl, e7, t7⟩
        have e27 : ExtN H2 H7 := (ExtN.of s26).trans e7
        have e07 : ExtN H H7 := (ExtN.of s02).trans e27
        have hlo7 := e27 _ _ hlo2 (by intro ps z; cases z)
        have hr7 := e27 _ _ hr' (by intro ps z; cases z)
        have hb7 : BookAt K C H7 b (bkOf zs D) := book_ext34 hb e07
        have ra7 : ∀ {i : Nat} {y : List Str}, R[i]? = some y → ∃ c, as[i]? = some c ∧ H7 c = some (.lst (y.map V.str)) := fun {i y} ey => by
          obtain ⟨c, e1, e2⟩ := ra.get ey
          exact ⟨c, e1, e27 _ _ e2 (by intro ps z; cases z)⟩
        refine ⟨.ref a.lo, rfl, a.lo, rfl, ⟨_, .inl (.inl hlo7)⟩, fun L1 nL1 => ?_⟩
        refine lc_it (walk_list (K := K) (a := a.lo) (xs := zs.map V.str)) (fun i H' => Same H7 H' ∧ H' L1 = some (.lst ((List.replicate i true).map V.bl))) ⟨same_upd nL1, upd_same⟩ (fun i H' _ hP => .inl (.inl (hP.1 _ _ hlo7))) (fun i v H8' H8 hi hP hY => ?_) (fun H8 hP => ?_)
        · obtain ⟨rfl, hv⟩ := hY
          obtain ⟨s8, h8⟩ := hP
          rw [lzm] at hi
          obtain ⟨_, rfl⟩ := at_z hi hv
          have hz : zs[i] ∈ zs := List.getElem_mem hi
          generalize zs[i] = z at hz
          refine ⟨rfl, .ref b, rfl, .str z, rfl, b, bkOf zs D, z, rfl, book_same hb7 s8, g.ok, g.closed, hz, fun v H9 s9 rv => ?_⟩
          have rv : RingV H8 H9 v (ringM zs (nxD zs D) z) := rv
          have nr9 : NiceS (ringD (ringM zs (nxD zs D) z)) 200 := niceS_ring fun x ex => ring_names g.nz.nm lz ld hz _ ex
          refine ⟨v, _, rfl, rv.dt, nr9.ok.sh, .inl nr9.ok.nd, by have := nr9.dp; omega, nice_fits nr9.ok (by decide), ?_⟩
          have s89 := s8.trans s9
          refine ⟨.ref r, rfl, r, rfl, ⟨_, .inl (.inl (s89 _ _ hr7))⟩, fun L2 nL2 => ?_⟩
          refine lc_it (walk_list (K := K) (a := r) (xs := as.map V.ref)) (fun j H' => Same H9 H' ∧ H' L2 = some (.lst ((((as.zip R).take j).filter fun p => decide (z ∈ p.2)).map fun p => V.ref p.1))) ⟨same_upd nL2, upd_same⟩ (fun j H' _ hP => .inl (.inl (hP.1 _ _ (s89 _ _ hr7)))) (fun j x Ha' Ha hj hP hY => ?_) (fun Ha hP => ?_)
          · obtain ⟨rfl, hx⟩ := hY
            obtain ⟨sa, ha⟩ := hP
            rw [las] at hj
            have ey : R[j]? = some R[j] := List.getElem?_eq_getElem hj
            obtain ⟨c, ec, hc⟩ := ra7 ey
            rw [List.getElem?_map, ec] at hx
            obtain rfl : V.ref c = x := Option.some.inj hx
            generalize R[j] = y at ey hc
            have ez : (as.zip R)[j]? = some (c, y) := List.getElem?_zip_eq_some.mpr ⟨ec, ey⟩
            rw [take_get ez, List.filter_append]
            refine ⟨rfl, .str z, rfl, .ref c, rfl, c, _, rfl, .inl (.inl (.inl (sa _ _ (s89 _ _ hc)))), rfl, flat_strs _, _, rfl, ?_⟩
            rw [inV_strs]
            by_cases hb : z ∈ y
            · rw [decide_eq_true hb]
              refine iteT ⟨.ref c, rfl, _, ha, ?_, fun c o ec => ?_, ?_⟩
              · rw [List.length_map]
                refine Nat.lt_of_le_of_lt (List.length_filter_le _ _) ?_
                rw [List.length_take, List.length_zip]
                exact small1000 (by omega)
              · rw [upd_ne (ne_of_none ec nL2)]
                exact sa c o ec
              · rw [upd_same]
                simp [hb]
            · rw [decide_eq_false hb]
              refine iteF ⟨sa, ?_⟩
              rw [ha]
              simp [hb]
          obtain ⟨sa, ha⟩ := hP
          have lzp : (as.zip R).length = R.length := by rw [List.length_zip, lR, Nat.min_self]
          rw [las, List.take_of_length_le (by omega)] at ha
          have eo := eO z hz
          rw [zip_rings lR z] at eo
          have mz : ∀ p ∈ (as.zip R).filter (fun p => decide (z ∈ p.2)), Ha p.1 = some (.lst (p.2.map V.str)) := fun p hp => by
            obtain ⟨k, hk⟩ := List.mem_iff_getElem?.mp (List.mem_filter.mp hp).1
            obtain ⟨k1, k2⟩ := List.getElem?_zip_eq_some.mp hk
            obtain ⟨c, e1, e2⟩ := ra7 k2
            rw [k1] at e1
            cases e1
            exact sa _ _ (s89 _ _ e2)
          have lfl : ((as.zip R).filter fun p => decide (z ∈ p.2)).length ≤ 12 := Nat.le_trans (List.length_filter_le _ _) (by omega)
          generalize (as.zip R).filter (fun p => decide (z ∈ p.2)) = PF at ha eo mz lfl
          refine ⟨by show 1 ≤ sizeLine; decide, fun nl nnl => ?_⟩
          have sb := same_upd (o := .lst [V.non]) nnl
          refine ⟨L2, nl, _, _, rfl, rfl, sb _ _ ha, upd_same, ?_, fun p np => ?_⟩
          · rw [List.length_map]
            exact small_line (by show _ + 1 ≤ _; omega)
          have sc := same_upd (o := .lst (PF.map (fun p => V.ref p.1) ++ [V.non])) np
          have hp : upd (upd Ha nl (.lst [V.non])) p (.lst (PF.map (fun p => V.ref p.1) ++ [V.non])) p = some (.lst (PF.map (fun p => V.ref p.1) ++ [V.non])) := upd_same
          have sac := sb.trans sc
          generalize upd (upd Ha nl (.lst [V.non])) p (.lst (PF.map (fun p => V.ref p.1) ++ [V.non])) = Hc at hp sac
          have hfst : ∃ u, (PF.map (fun p => V.ref p.1) ++ [V.non])[0]? = some u ∧ Dt K Hc u (ringD (ringM zs (nxD zs D) z)) := by
            cases PF with
            | nil =>
              have eo : none = ringM zs (nxD zs D) z := eo
              rw [← eo]
              exact ⟨.non, rfl, .non⟩
            | cons q t =>
              have eo : some q.2 = ringM zs (nxD zs D) z := eo
              rw [← eo]
              exact ⟨.ref q.1, rfl, .lst (.inl (.inl (sac _ _ (mz q List.mem_cons_self)))) (DtAll.strs _)⟩
          obtain ⟨u, eu, du⟩ := hfst
          refine ⟨p, _, 0, u, rfl, rfl, .inl (.inl hp), atI_nat (j := 0) eu, ?_⟩
          refine ⟨u, _, rfl, du, nr9.ok.sh, .inl nr9.ok.nd, by have := nr9.dp; omega, nice_fits nr9.ok (by decide), rfl, ?_⟩
          rw [decide_eq_true rfl]
          have s7c := s89.trans (sa.trans sac)
          refine ⟨_, (s9.trans (sa.trans sac)) _ _ h8, by rw [List.length_map, List.length_replicate]; exact small1000 (by omega), fun c o ec => ?_, ?_⟩
          · rw [upd_ne (ne_of_none ec nL1)]
            exact s7c c o ec
          · rw [upd_same, List.replicate_succ', List.map_append]
            rfl
        · obtain ⟨s8, h8⟩ := hP
          rw [lzm] at h8
          refine ⟨L1, List.replicate zs.length true, rfl, .inl (.inl h8), ?_⟩
          rw [show (List.replicate zs.length true).all id = true from by simp]
          exact q _ (e07.trans (ExtN.of s8)) (t7.ext s8)

end
end Rc

namespace Rc
open PySem PySem.Spec PyProof.Rows L2 RZ LamX
theorem niceA_rings : ∀ {rs : List (List Str)}, (∀ x ∈ rs, (∀ y ∈ x, nameT y = true) ∧ x.length ≤ 12) → NiceA (rs.map fun x => PyData.list (x.map .str)) (201 * rs.length)
  | [], _ => NiceA.nil
  | x :: r, h => by
    have a := niceS_names (h x List.mem_cons_self).1 (h x List.mem_cons_self).2
    have c := NiceA.cons a.ok a.dp (niceA_rings (rs := r) fun y hy => h y (List.mem_cons_of_mem _ hy))
    rw [List.map_cons, List.length_cons]
    have e : 201 * (r.length + 1) = 200 + 1 + 201 * r.length := by omega
    rw [e]
    exact c
theorem nice_rings {rs : List (List Str)} (h : ∀ x ∈ rs, (∀ y ∈ x, nameT y = true) ∧ x.length ≤ 12) (l : rs.length ≤ 12) : NiceD (ringsD rs) 8000 ∧ (ringsD rs).depth ≤ 4 := by
  have a : NiceD (ringsD rs) (201 * rs.length) := (niceA_rings h).list
  refine ⟨a.mono (by omega), ?_⟩
  unfold ringsD
  simp only [PyData.depth]
  have := dep_map (f := fun x : List Str => PyData.list (x.map .str)) (n := 1) (l := rs) fun x _ => by
    simp only [PyData.depth]
    have := dep_map (f := PyData.str) (n := 0) (l := x) fun _ _ => by simp only [PyData.depth]; omega
    omega
  omega
section
variable {P : Program} {w : World} {K : PySem.W.Frag} {mg : Str → Option Value} {base : Heap}
/-! ### _law_due_right -/
abbrev sLDu : Stmt := topS 46
abbrev nLDu : List Str := ["_law_model_here", "_law_book", "_law_who", "_law_left_here"]
theorem scLDu : FnScope nLDu ["_law_model_here", "_law_book"] (defScope sLDu) := ⟨rfl, rfl, rfl, by decide +kernel, rfl, by decide +kernel, by decide +kernel⟩
def spLDu (K : PySem.W.Frag) (C : Addr) : Sp := fun vs H Q _ => ∃ (a : MdA) (D : Md) (zs : List Str) (b : Addr), vs = [.ref a.m, .ref b] ∧ ModelAt K H zs a D ∧ BookAt K C H b (bkOf zs D) ∧ Gs zs D ∧ ∀ H', Same H H' → Q (.bl true) H'
set_option maxHeartbeats 1000000 in
theorem ok_ldu {f f1 f2 C : Addr} {fd fd1 fd2 : FuncData} (F : Fun K "_law_due_right" "_law_due_right" sLDu f fd) (B2 : Blt2 mg) (LL : Has P w K mg base 2 "_law_left" ["_law_model_here", "_law_who"] (spLLf K) f1 fd1)
    (DU : Has P w K mg base 6 "due_of" ["book", "who"] (spDue K C) f2 fd2) : FnG P w K mg base CX0 8 f fd ["_law_model_here", "_law_book"] (spLDu K C) := by
  refine okG0 F scLDu (fun vs H Q E h => ?_) (fun cdv Ar outer s H vs Q E hr hgd h => ?_)
  · obtain ⟨_, _, _, _, rfl, _⟩ := h
    rfl
  · obtain ⟨a, D, zs, b, rfl, hM, hb, g, q⟩ := h
    have hu := hu_of hr
    have hr2 := hr.mono (show 2 ≤ 7 by decide)
    have hr6 := hr.mono (show 6 ≤ 7 by decide)
    have lz := g.walks.lz
    refine ⟨_, (pss_cons (ps_for PassesOwn.never rfl (pi_list (pe_dget hu (pv 0) pe_str (fun _ _ => rfl))) (pg_name (i := 2) scLDu.nd rfl (.inl rfl)) (pss_cons (ps_set (i := 3) scLDu.nd rfl (.inl rfl) (pe_call LL.ok hr2 (by rfl) LL.g LL.kp LL.b .nil pass0 (pa_cons (pv 0) (pa_cons (pv 2) pa_nil)))) (pss_one (ps_if (pt_cmpR op_ne (pe_callB (call_repr hr hgd) (by rfl) B2.repr (by decide +kernel) (pa_cons (pe_call DU.ok hr6 (by rfl) DU.g DU.kp DU.b .nil pass0 (pa_cons (pv 1) (pa_cons (pv 2) pa_nil))) pa_nil)) (pe_callB (call_repr hr hgd) (by rfl) B2.repr (by decide +kernel) (pa_cons (pe_ifExp (pt_cmpR (op_neD hr.units) (pv 3) (pe_lst pa_nil) (nomark _)) (pe_ix ix_list (pv 3) pe_int (fun _ _ => rfl)) pe_non) pa_nil)) (nomark _)) (pss_one (ps_ret pe_bl)) pss_nil)))) (pss_one (ps_ret pe_bl))), ?_⟩
    refine ⟨.ref a.m, rfl, a.m, .ref a.lo, rfl, hM.g0, a.lo, rfl, ⟨_, .inl (.inl hM.ho)⟩, ?_⟩
    refine for_it (walk_list (K := K) (a := a.lo) (xs := zs.map V.str)) (fun i σ H' => ∃ y2 y3, σ = [some (.ref a.m), some (.ref b), y2, y3] ∧ Same H H') ⟨_, _, rfl, Same.refl _⟩ (fun i σ H' _ hP => ?_) (fun i x σ H2' H2 hi hP hY => ?_) (fun σ H2 hP => ?_)
    · obtain ⟨_, _, _, s2⟩ := hP
      exact .inl (.inl (s2 _ _ hM.ho))
    · obtain ⟨rfl, hx⟩ := hY
      obtain ⟨y2, y3, rfl, s2⟩ := hP
      rw [List.length_map] at hi
      have exx : x = .str zs[i] := by
        rw [List.getElem?_map, List.getElem?_eq_getElem hi] at hx
        exact (Option.some.inj hx).symm
      subst exx
      have hz : zs[i] ∈ zs := List.getElem_mem hi
      generalize zs[i] = z at hz
      have ej := idx_get hz
      have hM2 := model_same hM s2
      obtain ⟨gv, f', l', r, xs, eg, ef, el, er, hr0, hd0⟩ := hM2.at_ ej
      have ll := g.rows l' (List.mem_of_getElem? el)
      have gl := g.left el ef
      have eo : (duesM (bkOf zs D)).getD (zs.idxOf z) none = (leftN l' f').head? := getD_of (dues_at (M := bkOf zs D) el ef)
      have ns : NiceS (dueD (leftN l' f').head?) 200 := niceS_due g.nz.nm fun n en => gl n (List.mem_of_mem_head? en)
      refine ⟨.ref a.m, rfl, .str z, rfl, a, D, zs, z, _, l', f', rfl, hM2, ej, el, ef, by omega, fun m mx H3 s3 nm hm dm => ?_⟩
      refine ⟨.ref b, rfl, .str z, rfl, b, bkOf zs D, z, zs.idxOf z, rfl, book_same hb (s2.trans s3), g.ok, ej, fun v H4 s4 dv => ?_⟩
      rw [eo] at dv
      refine ⟨v, _, rfl, dv, ns.ok.sh, .inl ns.ok.nd, by have := ns.dp; omega, nice_fits ns.ok (by decide), ?_⟩
      have hm4 := s4 _ _ hm
      have dm4 := DtAll.same s4 _ dm
      generalize leftN l' f' = L at dm4 gl ns
      refine ⟨.ref m, rfl, Nat.zero_le _, fun e ne => ?_⟩
      have s5 := same_upd (o := .lst []) ne
      have he : upd H4 e (.lst []) e = some (.lst []) := upd_same
      generalize upd H4 e (.lst []) = H5 at s5 he
      have hm5 := s5 _ _ hm4
      have dm5 := DtAll.same s5 _ dm4
      have s25 := s2.trans (s3.trans (s4.trans s5))
      refine ⟨.list (notesD L), .list [], notes_dp hm5 dm5, .lst (.inl (.inl he)) .nil, nice_shaped (nice_notes g.nz.nm gl).list, shaped_nil, _, rfl, ?_⟩
      cases L with
      | nil =>
        refine iteF ⟨.non, dueD none, rfl, .non, niceS_none.ok.sh, .inl niceS_none.ok.nd, Nat.le_trans niceS_none.dp (by decide), nice_fits niceS_none.ok (by decide), rfl, _, rfl, ?_⟩
        rw [show (!decide (V.str (dueD ([] : List (Str × Int)).head?).shown = V.str (dueD none).shown)) = false from congrArg not (decide_eq_true (show V.str (dueD ([] : List (Str × Int)).head?).shown = V.str (dueD none).shown from rfl))]
        exact iteF ⟨_, _, rfl, s25⟩
      | cons n t =>
        cases dm5 with
        | cons d1 d2 =>
          rename_i x xr
          refine iteT ⟨.ref m, rfl, m, _, 0, x, rfl, rfl, .inl (.inl hm5), atI_nat (j := 0) rfl, x, dueD (some n), rfl, d1, ns.ok.sh, .inl ns.ok.nd, Nat.le_trans ns.dp (by decide), nice_fits ns.ok (by decide), rfl, _, rfl, ?_⟩
          rw [show (!decide (V.str (dueD (n :: t).head?).shown = V.str (dueD (some n)).shown)) = false from congrArg not (decide_eq_true (show V.str (dueD (n :: t).head?).shown = V.str (dueD (some n)).shown from rfl))]
          exact iteF ⟨_, _, rfl, s25⟩
    · obtain ⟨_, _, rfl, s2⟩ := hP
      exact q H2 s2
/-! ### _law_own -/
abbrev sLOw : Stmt := topS 47
abbrev nLOw : List Str := ["_law_book", "_law_kept", "_law_told", "_law_one"]
theorem scLOw : FnScope nLOw ["_law_book"] (defScope sLOw) := ⟨rfl, rfl, rfl, by decide +kernel, rfl, by decide +kernel, by decide +kernel⟩
def spLOw (K : PySem.W.Frag) (C : Addr) : Sp := fun vs H Q _ => ∃ (D : Md) (zs : List Str) (b : Addr), vs = [.ref b] ∧ BookAt K C H b (bkOf zs D) ∧ Gs zs D ∧ ∀ H', Same H H' → Q (.bl true) H'
set_option maxHeartbeats 1000000 in
theorem ok_low {f f1 C : Addr} {fd fd1 : FuncData} (F : Fun K "_law_own" "_law_own" sLOw f fd) (B2 : Blt2 mg) (AR : Has P w K mg base 8 "all_rings" ["book"] (spArs K C) f1 fd1) : FnG P w K mg base CX0 9 f fd ["_law_book"] (spLOw K C) := by
  refine okG0 F scLOw (fun vs H Q E h => ?_) (fun cdv Ar outer s H vs Q E hr hgd h => ?_)
  · obtain ⟨_, _, _, rfl, _⟩ := h
    rfl
  · obtain ⟨D, zs, b, rfl, hb, g, q⟩ := h
    have rk := rings_ok g
    refine ⟨_, (pss_cons (ps_set (i := 1) scLOw.nd rfl (.inl rfl) (pe_callB (call_repr hr hgd) (by rfl) B2.repr (by decide +kernel) (pa_cons (pe_call AR.ok hr (by rfl) AR.g AR.kp AR.b .nil pass0 (pa_cons (pv 0) pa_nil)) pa_nil))) (pss_cons (ps_set (i := 2) scLOw.nd rfl (.inl rfl) (pe_call AR.ok hr (by rfl) AR.g AR.kp AR.b .nil pass0 (pa_cons (pv 0) pa_nil))) (pss_cons (ps_for PassesOwn.never rfl (pi_list (pv 2)) (pg_name (i := 3) scLOw.nd rfl (.inl rfl)) (pss_one (ps_expr (pe_bm PySem.F.plainAttrs_list PySem.F.slot_list_append PySem.F.type_list_append mt_append (pv 3) (pa_cons pe_str pa_nil))))) (pss_cons (ps_expr (pe_bm0 PySem.F.plainAttrs_list PySem.F.slot_list_clear PySem.F.type_list_clear mt_clear (pv 2))) (pss_one (ps_ret (pe_cmpR op_eq (pe_callB (call_repr hr hgd) (by rfl) B2.repr (by decide +kernel) (pa_cons (pe_call AR.ok hr (by rfl) AR.g AR.kp AR.b .nil pass0 (pa_cons (pv 0) pa_nil)) pa_nil)) (pv 1) (by rfl)))))))), ?_⟩
    refine ⟨.ref b, rfl, b, bkOf zs D, rfl, hb, g.ok, g.closed, fun r as H1 s1 nr hr1 ra => ?_⟩
    have ra : RingsAt H H1 r as (ringsM zs (nxD zs D) zs) := ra
    generalize hRR : ringsM zs (nxD zs D) zs = R at ra rk
    obtain ⟨n1, d4⟩ := nice_rings rk.1 rk.2
    refine ⟨.ref r, _, rfl, rings_dt ra hr1, n1.sh, .inl n1.nd, by omega, nice_fits n1 (by decide), ?_⟩
    refine ⟨.ref b, rfl, b, bkOf zs D, rfl, book_same hb s1, g.ok, g.closed, fun r2 as2 H2 s2 nr2 hr2 ra2 => ?_⟩
    have ra2 : RingsAt H1 H2 r2 as2 (ringsM zs (nxD zs D) zs) := ra2
    rw [hRR] at ra2
    have lR : as2.length = R.length := Paired.length ra2
    have las : (as2.map V.ref).length = R.length := by rw [List.length_map, lR]
    have l12 := rk.2
    have fresh : ∀ c ∈ as2, H1 c = none ∧ c ≠ r2 ∧ ∃ xs : List V, H2 c = some (.lst xs) ∧ xs.length ≤ 12 := fun c hc => by
      obtain ⟨i, hi, ei⟩ := List.getElem_of_mem hc
      have hy : R[i]? = some R[i] := List.getElem?_eq_getElem (by omega)
      unfold RingsAt at ra2
      have go : ∀ {as : List Addr} {rs : List (List Str)}, Paired (fun a x => H1 a = none ∧ a ≠ r2 ∧ H2 a = some (.lst (List.map V.str x))) as rs → (∀ x ∈ rs, x.length ≤ 12) → ∀ c ∈ as, H1 c = none ∧ c ≠ r2 ∧ ∃ xs : List V, H2 c = some (.lst xs) ∧ xs.length ≤ 12 := fun {as rs} h => by
        induction h with
        | nil => exact fun _ _ hc => by cases hc
        | cons a b ih =>
          intro hl c hc
          rcases List.mem_cons.mp hc with rfl | hc
          · exact ⟨a.1, a.2.1, _, a.2.2, by rw [List.length_map]; exact hl _ List.mem_cons_self⟩
          · exact ih (fun x hx => hl x (List.mem_cons_of_mem _ hx)) c hc
      exact go ra2 (fun x hx => (rk.1 x hx).2) c hc
    refine ⟨.ref r2, rfl, r2, rfl, ⟨_, .inl (.inl hr2)⟩, ?_⟩
    refine for_it (walk_list (K := K) (a := r2) (xs := as2.map V.ref)) (fun i σ H' => ∃ y3, σ = [some (.ref b), some (.str (ringsD R).shown), some (.ref r2), y3] ∧ Same H1 H' ∧ H' r2 = some (.lst (as2.map V.ref)) ∧ ∀ c ∈ as2, ∃ xs : List V, H' c = some (.lst xs) ∧ xs.length ≤ 12 + i) ⟨_, rfl, s2, hr2, fun c hc => (fresh c hc).2.2⟩ (fun i σ H' _ hP => ?_) (fun i x σ H3' H3 hi hP hY => ?_) (fun σ H3 hP => ?_)
    · obtain ⟨_, _, _, h3, _⟩ := hP
      exact .inl (.inl h3)
    · obtain ⟨rfl, hx⟩ := hY
      obtain ⟨y3, rfl, s3, h3, h4⟩ := hP
      rw [las] at hi
      have hi2 : i < as2.length := by omega
      have ec : as2[i]? = some as2[i] := List.getElem?_eq_getElem hi2
      have hc : as2[i] ∈ as2 := List.getElem_mem hi2
      rw [List.getElem?_map, ec] at hx
      generalize as2[i] = c at hc hx
      obtain rfl : V.ref c = x := Option.some.inj hx
      obtain ⟨f1, f2, _⟩ := fresh c hc
      obtain ⟨xs, ex, lx⟩ := h4 c hc
      refine ⟨.ref c, rfl, .inl ⟨rfl, _, .inl (.inl ex)⟩, c, xs, _, rfl, rfl, ex, small1000 (by omega), _, rfl, fun c' o ec => ?_, (upd_ne f2.symm).trans h3, fun c' hc' => ?_⟩
      · rw [upd_ne (ne_of_none ec f1)]
        exact s3 c' o ec
      · by_cases e : c' = c
        · subst e
          exact ⟨_, upd_same, by rw [List.length_append]; show xs.length + 1 ≤ 12 + (i + 1); omega⟩
        · obtain ⟨ys, ey, ly⟩ := h4 c' hc'
          exact ⟨ys, (upd_ne e).trans ey, by omega⟩
    · obtain ⟨y3, rfl, s3, h3, _⟩ := hP
      refine ⟨.ref r2, rfl, .inl ⟨rfl, _, .inl (.inl h3)⟩, r2, _, rfl, rfl, h3, ?_⟩
      have s4 : Same H1 (upd H3 r2 (.lst [])) := fun c o e => by
        rw [upd_ne (ne_of_none e nr2)]
        exact s3 c o e
      generalize upd H3 r2 (.lst []) = H4 at s4
      refine ⟨.ref b, rfl, b, bkOf zs D, rfl, book_same hb (s1.trans s4), g.ok, g.closed, fun r5 as5 H5 s5 nr5 hr5 ra5 => ?_⟩
      have ra5 : RingsAt H4 H5 r5 as5 (ringsM zs (nxD zs D) zs) := ra5
      rw [hRR] at ra5
      refine ⟨.ref r5, _, rfl, rings_dt ra5 hr5, n1.sh, .inl n1.nd, by omega, nice_fits n1 (by decide), _, rfl, rfl, ?_⟩
      rw [decide_eq_true rfl]
      exact q H5 (s1.trans (s4.trans s5))
end
end Rc

namespace Rc
open PySem PySem.Spec PyProof.Rows L2 RZ LamX
/-! ### a heap behind another, with tables of code -/
structure Wd (T : List (Addr × Str)) (H G : Hp) : Prop where
  e : ExtN H G
  t : Tabs T G
/-- new, or a table -/
def Nw (H : Hp) (p : Addr) : Prop := H p = none ∨ ∃ ps, H p = some (.tbl ps)
section
variable {T : List (Addr × Str)} {H G G' : Hp} {p : Addr}
theorem Nw.ne (n : Nw H p) {c : Addr} {o : HO} (h : H c = some o) (t : ∀ ps, o ≠ .tbl ps) : c ≠ p := fun z => by
  rcases n with n | ⟨ps, n⟩
  · rw [z, n] at h
    cases h
  · rw [z, n] at h
    exact t ps (Option.some.inj h).symm
theorem Wd.same (w : Wd T H G) (s : Same G G') : Wd T H G' := ⟨w.e.trans (ExtN.of s), w.t.ext s⟩
theorem Wd.ext (w : Wd T H G) (s : ExtN G G') (t : Tabs T G') : Wd T H G' := ⟨w.e.trans s, t⟩
theorem Wd.nw (w : Wd T H G) (n : G p = none) : Nw H p := ExtN.free w.e n
theorem Wd.nwN (w : Wd T H G) (n : Nw G p) : Nw H p := by
  cases z : H p with
  | none => exact .inl z
  | some o =>
    by_cases t : ∃ ps, o = .tbl ps
    · obtain ⟨ps, rfl⟩ := t
      exact .inr ⟨ps, z⟩
    · have := w.e p o z fun ps y => t ⟨ps, y⟩
      exact absurd rfl (n.ne this fun ps y => t ⟨ps, y⟩)
theorem tabs_but (t : Tabs T G) (b : But p G G') (hp : ∃ o, G p = some o ∧ (∀ ps, o ≠ .tbl ps) ∧ ∀ c q, o ≠ CodeO c q) : Tabs T G' := fun x hx => by
  obtain ⟨ps, h1, h2, h3⟩ := t x hx
  obtain ⟨o, ho, n1, n2⟩ := hp
  refine ⟨ps, b _ _ (fun z => ?_) h1, h2, fun pos cv hc => ?_⟩
  · rw [z, ho] at h1
    exact n1 ps (Option.some.inj h1)
  · obtain ⟨c, e1, e2⟩ := h3 pos cv hc
    refine ⟨c, e1, b _ _ (fun z => ?_) e2⟩
    rw [z, ho] at e2
    exact n2 _ _ (Option.some.inj e2)
theorem lst_code {xs : List V} (c : Addr) (q : Str) : HO.lst xs ≠ CodeO c q := fun z => by
  unfold CodeO at z
  cases z
theorem dK_code {xs : List (Key × V)} (c : Addr) (q : Str) : HO.dK xs ≠ CodeO c q := fun z => by
  unfold CodeO at z
  cases z
theorem Wd.but (w : Wd T H G) (b : But p G G') (hp : Pot G p) (n : Nw H p) : Wd T H G' := by
  obtain ⟨x, y, e, _⟩ := hp
  exact ⟨fun c o h t => b c o (n.ne h t) (w.e c o h t), tabs_but w.t b ⟨_, e, (by intro ps z; cases z), lst_code⟩⟩
theorem Wd.butD (w : Wd T H G) {m : List (Key × V)} (b : But p G G') (hp : G p = some (.dK m)) (n : Nw H p) : Wd T H G' :=
  ⟨fun c o h t => b c o (n.ne h t) (w.e c o h t), tabs_but w.t b ⟨_, hp, (by intro ps z; cases z), dK_code⟩⟩
theorem Pot.ext {H H' : Hp} (h : Pot H p) (e : ExtN H H') : Pot H' p := by
  obtain ⟨x, y, h1, h2⟩ := h
  exact ⟨x, y, e _ _ h1 (by intro ps z; cases z), h2⟩
theorem sql_ext {K : PySem.W.Frag} {H H' : Hp} {a : Addr} {xs : List V} (h : SqL K H a xs) (e : ExtN H H') : SqL K H' a xs := by
  rcases h with (h | ⟨o, h⟩) | h
  · exact .inl (.inl (e _ _ h (by intro ps z; cases z)))
  · exact .inl (.inr ⟨o, e _ _ h (by intro ps z; cases z)⟩)
  · exact .inr h
end
theorem model_ext {K : PySem.W.Frag} {H H' : Hp} {zs : List Str} {a : MdA} {D : Md} (h : ModelAt K H zs a D) (s : ExtN H H') : ModelAt K H' zs a D :=
  { h with
    hm := s _ _ h.hm (by intro ps z; cases z)
    ho := s _ _ h.ho (by intro ps z; cases z)
    hg := s _ _ h.hg (by intro ps z; cases z)
    hf := s _ _ h.hf (by intro ps z; cases z)
    hn := s _ _ h.hn (by intro ps z; cases z)
    rows := fun i r l a1 a2 => by
      obtain ⟨xs, x1, x2⟩ := h.rows i r l a1 a2
      exact ⟨xs, s _ _ x1 (by intro ps z; cases z), DtAll.keepT (ext_kt s) _ (tup_notes _) x2⟩ }
theorem Bd.mono {D : Md} {k m : Nat} (h : Bd D k) (e : k ≤ m) : Bd D m := ⟨fun g hg => by
  obtain ⟨a, b⟩ := h.gv g hg
  exact ⟨a, Int.le_trans b (Int.mul_le_mul_of_nonneg_right (Int.ofNat_le.mpr e) (by decide))⟩, Nat.le_trans h.my e⟩
theorem Bd.keeps {D E : Md} {k : Nat} (h : Bd D k) (hg : E.given = D.given) (hn : E.notes = D.notes) : Bd E k := ⟨by rw [hg]; exact h.gv, by rw [hn]; exact h.my⟩
theorem md_lens' (zs : List Str) (ds : List Deed) : (mdAt zs ds).given.length = zs.length ∧ (mdAt zs ds).notes.length = zs.length := by
  have h : ∀ (ds : List Deed) (D : Md), (ds.foldl (doneD zs) D).given.length = D.given.length ∧ (ds.foldl (doneD zs) D).notes.length = D.notes.length := fun ds => by
    induction ds with
    | nil => exact fun D => ⟨rfl, rfl⟩
    | cons d r ih =>
      intro D
      obtain ⟨a, b⟩ := ih (doneD zs D d)
      obtain ⟨c, e⟩ := done_lens zs D d
      exact ⟨a.trans c, b.trans e⟩
  obtain ⟨a, b⟩ := h ds (newMd zs.length)
  exact ⟨a.trans List.length_replicate, b.trans List.length_replicate⟩
/-- a law that reaches tables of code -/
def spLawT (K : PySem.W.Frag) (T : List (Addr × Str)) : Sp := fun vs H Q _ => ∃ (a : Addr) (ns : List Int), vs = [.ref a] ∧ SqL K H a (ns.map V.int) ∧ ns.length ≤ 63 ∧ Tabs T H ∧ ∀ H', Q (.bl true) H'
end Rc

namespace Rc
open PySem PySem.Spec PyProof.Rows L2 RZ LamX
/-! ### a heap behind another but for the pot, with tables of code -/
structure WdP (T : List (Addr × Str)) (p : Addr) (H G : Hp) : Prop where
  e : ∀ c o, c ≠ p → (∀ ps, o ≠ .tbl ps) → H c = some o → G c = some o
  t : Tabs T G
section
variable {T : List (Addr × Str)} {H G G' : Hp} {p x : Addr}
theorem WdP.same (w : WdP T p H G) (s : Same G G') : WdP T p H G' := ⟨fun c o n t h => s _ _ (w.e c o n t h), w.t.ext s⟩
theorem WdP.ext (w : WdP T p H G) (s : ExtN G G') (t : Tabs T G') : WdP T p H G' := ⟨fun c o n t' h => s _ _ (w.e c o n t' h) t', t⟩
theorem WdP.but (w : WdP T p H G) (b : But p G G') (hp : Pot G p) : WdP T p H G' := by
  obtain ⟨x, y, e, _⟩ := hp
  exact ⟨fun c o n t h => b c o n (w.e c o n t h), tabs_but w.t b ⟨_, e, (by intro ps z; cases z), lst_code⟩⟩
/-- new behind the pot -/
def NwP (p : Addr) (H : Hp) (x : Addr) : Prop := x = p ∨ Nw H x
theorem WdP.nw (w : WdP T p H G) (n : Nw G x) : NwP p H x := by
  by_cases h : x = p
  · exact .inl h
  · right
    cases z : H x with
    | none => exact .inl z
    | some o =>
      by_cases t : ∃ ps, o = .tbl ps
      · obtain ⟨ps, rfl⟩ := t
        exact .inr ⟨ps, z⟩
      · have := w.e x o h (fun ps y => t ⟨ps, y⟩) z
        exact absurd rfl (n.ne this fun ps y => t ⟨ps, y⟩)
theorem WdP.butD (w : WdP T p H G) {m : List (Key × V)} (b : But x G G') (hx : G x = some (.dK m)) (n : NwP p H x) : WdP T p H G' :=
  ⟨fun c o hc t h => b c o (fun z => by
    rcases n with n | n
    · exact hc (z.trans n)
    · exact n.ne h t z) (w.e c o hc t h), tabs_but w.t b ⟨_, hx, (by intro ps z; cases z), dK_code⟩⟩
end
/-- a law's cell, where tables of code are reached -/
def spLRtT (T : List (Addr × Str)) : Sp := fun vs H Q _ => ∃ p : Addr, vs = [.ref p] ∧ Pot H p ∧ Tabs T H ∧ ∀ H', WdP T p H H' → Q (.bl true) H'
end Rc

namespace Rc
open PySem PySem.Spec PyProof.Rows L2 RZ LamX
section
variable {K : PySem.W.Frag} {C p b : Addr} {H H' : Hp} {m : MdA} {zs : List Str} {D : Md} {k : Nat}
theorem S34.ext (h : S34 K C H p m b zs D k) (e : ExtN H H') : S34 K C H' p m b zs D k := ⟨Pot.ext h.pot e, model_ext h.mod e, book_ext34 h.bk e, h.g, h.gb, h.bd, h.np⟩
end
section
variable {P : Program} {w : World} {K : PySem.W.Frag} {mg : Str → Option Value} {base : Heap}
/-! ### _law_right -/
abbrev sLRt : Stmt := topS 48
abbrev nLRt : List Str := ["_law_pot_here", "_law_model_here", "_law_book", "_law_k", "_law_who", "_law_more", "_law_amount_here", "_law_to"]
theorem scLRt : FnScope nLRt ["_law_pot_here"] (defScope sLRt) := ⟨rfl, rfl, rfl, by decide +kernel, rfl, by decide +kernel, by decide +kernel⟩
set_option maxHeartbeats 4000000 in
theorem ok_lrt {f fT fA f1 f2 f3 f4 f5 f6 f7 f8 f9 C : Addr} {fd fdT fdA fd1 fd2 fd3 fd4 fd5 fd6 fd7 fd8 fd9 : FuncData} {T : List (Addr × Str)} (F : Fun K "_law_right" "_law_right" sLRt f fd) (T' : ClsF K C) (B2 : Blt2 mg) (B3 : Blt3 mg) (TK : HasTake P w K mg base fT fdT) (AM : HasAmong P w K mg base fA fdA)
    (LN : Has P w K mg base 8 "_law_noted" ["_law_pot_here"] (spLNt K C) f1 fd1) (RR : HasG P w K mg base 10 "_law_rings_right" ["_law_model_here", "_law_book"] (spLRr K C T) f2 fd2) (DU : HasG P w K mg base 8 "_law_due_right" ["_law_model_here", "_law_book"] (spLDu K C) f3 fd3)
    (OW : HasG P w K mg base 9 "_law_own" ["_law_book"] (spLOw K C) f4 fd4) (LL : Has P w K mg base 2 "_law_left" ["_law_model_here", "_law_who"] (spLLf K) f5 fd5) (CS : Has P w K mg base 2 "_law_cash" ["_law_model_here", "_law_who"] (spLCs K) f6 fd6)
    (AMT : Has P w K mg base 2 "_law_amount" ["_law_pot_here", "_law_size"] spLAm f7 fd7) (LF : HasM P w K mg base C 7 "let_fall" ["self", "more"] (spLetF K C) f8 fd8) (GE : HasM P w K mg base C 6 "give" ["self", "who", "amount"] (spGive K C) f9 fd9) :
    FnG P w K mg base CX0 11 f fd ["_law_pot_here"] (spLRtT T) := by
  refine okG0 F scLRt (fun vs H Q E h => ?_) (fun cdv Ar outer s H vs Q E hr hgd h => ?_)
  · obtain ⟨_, rfl, _⟩ := h
    rfl
  · obtain ⟨p, rfl, hp, hT, q⟩ := h
    have hu := hu_of hr
    have hr1 := hr.mono (show 1 ≤ 10 by decide)
    have hr2 := hr.mono (show 2 ≤ 10 by decide)
    have hr6 := hr.mono (show 6 ≤ 10 by decide)
    have hr7 := hr.mono (show 7 ≤ 10 by decide)
    have hr8 := hr.mono (show 8 ≤ 10 by decide)
    have hr9 := hr.mono (show 9 ≤ 10 by decide)
    refine ⟨_, (pss_cons (ps_asg (pe_call LN.ok hr8 (by rfl) LN.g LN.kp LN.b .nil pass0 (pa_cons (pv 0) pa_nil)) (pg_tup rfl (pgs_cons (pg_name (i := 1) scLRt.nd rfl (.inl rfl)) (pgs_cons (pg_name (i := 2) scLRt.nd rfl (.inl rfl)) pgs_nil)))) (pss_cons (ps_for PassesOwn.never rfl (pi_range1 (by rfl) B2.range (pa_cons pe_int pa_nil)) (pg_name (i := 3) scLRt.nd rfl (.inl rfl)) (pss_cons (ps_if (PW.pt (pw_or (pt_not (pt_val (pe_callG RR.ok hr hgd (by rfl) RR.g RR.kp RR.b .nil pass0 (pa_cons (pv 1) (pa_cons (pv 2) pa_nil))))) (pw_or (pt_not (pt_val (pe_callG DU.ok hr8 hgd (by rfl) DU.g DU.kp DU.b .nil pass0 (pa_cons (pv 1) (pa_cons (pv 2) pa_nil))))) (pw_or1 (pt_not (pt_val (pe_callG OW.ok hr9 hgd (by rfl) OW.g OW.kp OW.b .nil pass0 (pa_cons (pv 2) pa_nil)))))))) (pss_one (ps_ret pe_bl)) pss_nil) (pss_cons (ps_set (i := 4) scLRt.nd rfl (.inl rfl) (pe_call AM.ok hr2 (by rfl) AM.g AM.kp AM.b .nil pass0 (pa_cons (pv 0) (pa_cons (pe_dget hu (pv 1) pe_str (fun _ _ => rfl)) pa_nil)))) (pss_cons (ps_set (i := 5) scLRt.nd rfl (.inl rfl) (pe_callB (call_min2 rfl) (by rfl) B2.min (by decide +kernel) (pa_cons (pe_callB (cr_sum rfl) (by rfl) B3.sum (by decide +kernel) (pa_cons (pe_lc (own := [("_law_to", 7), ("_law_amount_here", 6)]) (g := gTup K 2 (gCons (gName 7) (gCons (gName 6) gNil))) (tt := tYes) rfl scLRt.nd (pi_list (pe_call LL.ok hr2 (by rfl) LL.g LL.kp LL.b .nil pass0 (pa_cons (pv 1) (pa_cons (pv 4) pa_nil)))) (blkOk_by (N := nLRt) (sc := defScope sLRt) (own := [("_law_to", 7), ("_law_amount_here", 6)]) (by decide +kernel)) (fun _ _ _ _ _ => pg_tup rfl (pgs_cons (pg_name (i := 7) scLRt.nd rfl (.inl rfl) (hf := .inr rfl)) (pgs_cons (pg_name (i := 6) scLRt.nd rfl (.inl rfl) (hf := .inr rfl)) pgs_nil))) (fun _ _ _ _ _ => pts_nil) (fun _ _ _ _ _ => (pv 6))) pa_nil)) (pa_cons (pe_call CS.ok hr2 (by rfl) CS.g CS.kp CS.b .nil pass0 (pa_cons (pv 1) (pa_cons (pv 4) pa_nil))) pa_nil)))) (pss_one (ps_if (pt_cmpR op_gt (pv 5) pe_int (nomark _)) (pss_cons (ps_set (i := 5) scLRt.nd rfl (.inl rfl) (pe_ix ix_list (pe_lst (pa_cons (pv 5) (pa_cons pe_int (pa_cons (pe_op op_add pe_int (pe_call TK.ok hr1 (by rfl) TK.g TK.kp TK.b .nil pass0 (pa_cons (pv 0) (pa_cons (pv 5) pa_nil)))) pa_nil)))) (pe_call TK.ok hr1 (by rfl) TK.g TK.kp TK.b .nil pass0 (pa_cons (pv 0) (pa_cons pe_int pa_nil))) (fun _ _ => rfl))) (pss_cons (ps_dput hu (pe_dget hu (pv 1) pe_str (fun _ _ => rfl)) (pv 4) (pe_op op_add (pe_dget hu (pe_dget hu (pv 1) pe_str (fun _ _ => rfl)) (pv 4) (fun _ _ => rfl)) (pv 5)) rfl) (pss_one (ps_set (i := 2) scLRt.nd rfl (.inl rfl) (pe_meth (pv 2) T'.cl LF.m LF.ok hr7 LF.b .nil pass0 (pa_cons (pe_disp (pps_cons (pv 4) (pv 5) pps_nil) (by rfl) (by rfl) (fun z => by cases z) (by show 1 ≤ 15; decide)) pa_nil)))))) (pss_cons (ps_set (i := 6) scLRt.nd rfl (.inl rfl) (pe_call AMT.ok hr2 (by rfl) AMT.g AMT.kp AMT.b .nil pass0 (pa_cons (pv 0) (pa_cons (pe_call TK.ok hr1 (by rfl) TK.g TK.kp TK.b .nil pass0 (pa_cons (pv 0) (pa_cons pe_int pa_nil))) pa_nil)))) (pss_cons (ps_dput hu (pe_dget hu (pv 1) pe_str (fun _ _ => rfl)) (pv 4) (pe_op op_add (pe_dget hu (pe_dget hu (pv 1) pe_str (fun _ _ => rfl)) (pv 4) (fun _ _ => rfl)) (pv 6)) rfl) (pss_one (ps_set (i := 2) scLRt.nd rfl (.inl rfl) (pe_meth (pv 2) T'.cl GE.m GE.ok hr6 GE.b .nil pass0 (pa_cons (pv 4) (pa_cons (pv 6) pa_nil))))))))))))) (pss_one (ps_ret pe_bl)))), ?_⟩
    refine ⟨.ref p, rfl, p, rfl, hp, fun zs m D0 b0 Tt H1 hTt st1 bt1 naH => ?_⟩
    refine ⟨Tt, _, rfl, .inl (.inl hTt), rfl, _, _, rfl, _, _, rfl, rfl, ?_⟩
    have w1 : WdP T p H H1 := (WdP.mk (fun c o _ _ e => e) hT).but bt1 hp
    have nwm : ∀ c, m.Has c → NwP p H c := fun c hc => .inr (.inl (naH c hc))
    refine ⟨6, rfl, by omega, by omega, ?_⟩
    refine for_it walk_range (fun i σ H' => ∃ b D y3 y4 y5 y6, σ = [some (.ref p), some (.ref m.m), some (.ref b), y3, y4, y5, y6, none] ∧ WdP T p H H' ∧ S34 K C H' p m b zs D (36 + i)) ⟨_, _, _, _, _, _, rfl, w1, st1⟩ (fun _ _ _ _ _ => trivial) (fun i x σ H2' H2 hi hP hY => ?_) (fun σ H2 hP => ?_)
    · obtain ⟨rfl, rfl⟩ := hY
      obtain ⟨b, D, y3, y4, y5, y6, rfl, w2, st2⟩ := hP
      have hi' : i < 6 := by simpa using hi
      have g := st2.g
      have n0 := g.nz.n0
      have n1 := g.nz.n1
      refine ⟨.ref m.m, rfl, .ref b, rfl, m, D, zs, b, rfl, st2.mod, st2.bk, g, w2.t, fun H3 e3 t3 => ?_⟩
      have st3 := st2.ext e3
      have w3 := w2.ext e3 t3
      refine ⟨_, rfl, iteF ?_⟩
      refine ⟨.ref m.m, rfl, .ref b, rfl, m, D, zs, b, rfl, st3.mod, st3.bk, g, fun H4 s4 => ⟨_, rfl, iteF ?_⟩⟩
      have st4 := st3.same s4
      have w4 := w3.same s4
      refine ⟨.ref b, rfl, D, zs, b, rfl, st4.bk, g, fun H5 s5 => ⟨_, rfl, iteF ?_⟩⟩
      have st5 := st4.same s5
      have w5 := w4.same s5
      have lop : m.lo ≠ p := fun z => st5.np (z ▸ .inr (.inl rfl))
      have lzm : (zs.map V.str).length = zs.length := List.length_map ..
      refine ⟨.ref p, rfl, .ref m.m, rfl, m.m, .ref m.lo, rfl, st5.mod.g0, p, _, rfl, st5.pot, .inr ⟨m.lo, _, rfl, lop, st5.mod.ho, by omega, by omega, fun w1 H6 hw1 hp6 bt6 => ?_⟩⟩
      obtain ⟨z, hz, rfl⟩ := List.mem_map.mp hw1
      have st6 := st5.draw hp6 bt6
      have w6 := w5.but bt6 st5.pot
      have ej := idx_get hz
      obtain ⟨gv, f', l', rw', xs, eg, ef, el, er, hr0, hd0⟩ := st6.mod.at_ ej
      have ll := g.rows l' (List.mem_of_getElem? el)
      have gl := g.left el ef
      have lle := leftN_len l' f'
      refine ⟨.ref m.m, rfl, .str z, rfl, m, D, zs, z, _, l', f', rfl, st6.mod, ej, el, ef, by omega, fun mm mx H7 s7 nm hm dm => ?_⟩
      have hw := wholeN_le gl
      have hDk := fun {x : Int} => drop_ok (m := x) g st6.gb st6.bd hz el ef
      have hlL : (leftN l' f').length ≤ 60 := by omega
      generalize leftN l' f' = L at dm gl hw hDk hlL
      have lmx : mx.length = L.length := by
        rw [dm.len]
        unfold notesD
        rw [List.length_map]
      refine ⟨mm, rfl, ⟨_, .inl (.inl hm)⟩, fun D' nD => ?_⟩
      refine lc_it (walk_list (K := K) (a := mm) (xs := mx)) (fun i' H' => Same H7 H' ∧ H' D' = some (.lst (((L.take i').map (·.2)).map V.int))) ⟨same_upd nD, upd_same⟩ (fun i' H' _ hP => hP.1.seq (.inl (.inl hm))) (fun i' x' H8' H8 hi' hP hY => ?_) (fun H8 hP => ?_)
      · obtain ⟨rfl, hx'⟩ := hY
        obtain ⟨hil, dn⟩ := (DtAll.same hP.1 _ dm).notes_get hx'
        obtain ⟨na, rfl, qn⟩ := note_inv dn
        refine ⟨na, _, rfl, qn, rfl, _, _, rfl, _, _, rfl, rfl, rfl, _, rfl, _, hP.2, ?_, fun c o ec => ?_, ?_⟩
        · rw [List.length_map, List.length_map, List.length_take]
          exact small1000 (by omega)
        · rw [upd_ne (ne_of_none ec nD)]
          exact hP.1 c o ec
        · rw [upd_same, take_succ hil, List.map_append, List.map_append]
          rfl
      obtain ⟨s8, h8⟩ := hP
      rw [lmx, List.take_length] at h8
      refine ⟨D', L.map (·.2), rfl, .inl (.inl h8), ?_⟩
      have st8 := (st6.same s7).same s8
      have w8 := (w6.same s7).same s8
      refine ⟨.ref m.m, rfl, .str z, rfl, m, D, zs, z, zs.idxOf z, rfl, st8.mod, ej, g.rows, fun H9 s9 => ⟨_, _, rfl, ?_⟩⟩
      have st9 := st8.same s9
      have w9 := w8.same s9
      rw [show (L.map (·.2)).sum = wholeN L from rfl, ← cash_eq zs D (zs.idxOf z) z]
      have hmo : ∃ mo : Int, (if cashM (bkOf zs D) (zs.idxOf z) z < wholeN L then cashM (bkOf zs D) (zs.idxOf z) z else wholeN L) = mo ∧ mo ≤ wholeN L ∧ mo ≤ cashM (bkOf zs D) (zs.idxOf z) z := by
        refine ⟨_, rfl, ?_, ?_⟩ <;> split <;> omega
      obtain ⟨mo, emo, mo1, mo2⟩ := hmo
      rw [emo]
      refine ⟨.int mo, rfl, _, _, rfl, rfl, _, rfl, ?_⟩
      have hw60 : wholeN L ≤ 60 * 10 ^ 58 := Int.le_trans hw (Int.mul_le_mul_of_nonneg_right (by omega) (by decide))
      by_cases hpos : mo > 0
      · rw [show decide (mo > 0) = true from decide_eq_true hpos]
        refine iteT ?_
        refine ⟨.int mo, rfl, .ref p, rfl, .int mo, rfl, p, mo, rfl, st9.pot, litM _ (by omega) (by omega), fun t Ha t0 t1 hpa bta => ⟨1, t, rfl, rfl, by show 3 ≤ sizeLine; decide, fun l nl => ?_⟩⟩
        have sta := st9.draw hpa bta
        have wa := w9.but bta st9.pot
        have lp : l ≠ p := hpa.ne nl
        have sl := same_upd (o := .lst [V.int mo, V.int 1, V.int (1 + t)]) nl
        have hl : upd Ha l (.lst [V.int mo, V.int 1, V.int (1 + t)]) l = some (.lst [V.int mo, V.int 1, V.int (1 + t)]) := upd_same
        have stb := sta.same sl
        have wb := wa.same sl
        generalize upd Ha l (.lst [V.int mo, V.int 1, V.int (1 + t)]) = Hb at hl stb wb
        refine ⟨.ref p, rfl, p, 3, rfl, stb.pot, litM _ (by decide) (by decide), fun u Hc u0 u1 hpc btc => ?_⟩
        have stc := stb.draw hpc btc
        have wc := wb.but btc stb.pot
        obtain ⟨v, ev, mv⟩ := pick (xs := [V.int mo, V.int 1, V.int (1 + t)]) u0 u1
        refine ⟨l, _, _, v, rfl, rfl, .inl (.inl (btc _ _ lp hl)), ev, ?_⟩
        have hv : ∃ am : Int, v = .int am ∧ 1 ≤ am ∧ am ≤ mo := by
          simp only [List.mem_cons, List.not_mem_nil, or_false] at mv
          rcases mv with rfl | rfl | rfl
          · exact ⟨mo, rfl, by omega, by omega⟩
          · exact ⟨1, rfl, by omega, by omega⟩
          · exact ⟨1 + t, rfl, by omega, by omega⟩
        obtain ⟨am, rfl, am1, am2⟩ := hv
        have hM := stc.mod
        obtain ⟨gg, gbb, bdd, fo, eM⟩ := hDk am1 (by omega) (by omega)
        have hj : zs.idxOf z < D.fallen.length := (List.getElem?_eq_some_iff.mp ef).1
        refine ⟨.ref m.m, rfl, m.m, .ref m.df, rfl, hM.g2, .str z, rfl, m.df, .int f', rfl, hM.gf ej ef, _, rfl, _, _, rfl, rfl, .ref m.m, rfl, m.m, .ref m.df, rfl, hM.g2, .str z, rfl, m.df, _, rfl, DPut.k (k := Sum.inr z) hM.hf (by rw [dct_len (by rw [List.length_map, hM.lf])]; exact small1000 (by omega)), ?_⟩
        rw [dct_put hM.zn ej (by rw [List.length_map]; exact hj), map_set V.int]
        have hM' := hM.setF n0 (j := zs.idxOf z) (f' + am)
        have hM' : ModelAt K (upd Hc m.df (.dK (dct zs ((D.fallen.set (zs.idxOf z) (f' + am)).map V.int)))) zs m (fellD D (zs.idxOf z) (f' + am)) := hM'
        have bfd : But m.df Hc (upd Hc m.df (.dK (dct zs ((D.fallen.set (zs.idxOf z) (f' + am)).map V.int)))) := fun c o n e => (upd_ne n).trans e
        have wd := wc.butD bfd hM.hf (nwm _ (.inr (.inr (.inr (.inl rfl)))))
        have kpd : Kp Hc (upd Hc m.df (.dK (dct zs ((D.fallen.set (zs.idxOf z) (f' + am)).map V.int)))) := fun c o e f => bfd c o (fun z => by rw [z, hM.hf] at e; cases e; exact f) e
        have hpd' : Pot (upd Hc m.df (.dK (dct zs ((D.fallen.set (zs.idxOf z) (f' + am)).map V.int)))) p := by
          obtain ⟨px, py, pe, pr⟩ := stc.pot
          exact ⟨px, py, bfd _ _ (fun z => stc.np (z ▸ .inr (.inr (.inr (.inl rfl))))) pe, pr⟩
        have hbd := stc.bk.keep kpd
        generalize upd Hc m.df (.dK (dct zs ((D.fallen.set (zs.idxOf z) (f' + am)).map V.int))) = Hd at hM' wd hpd' hbd
        obtain ⟨dx, tn, on, wg, ws, wd', e, _⟩ := hbd.ex
        refine ⟨.ref b, rfl, b, dx, _, rfl, e, bf_no (NoF.mk' (by decide +kernel)), fun pd npd => ⟨.str z, rfl, .int am, rfl, upd_same, [(.inr z, .int am)], rfl, by show 1 ≤ 15; decide, ?_⟩⟩
        rw [upd_upd]
        have se := same_upd (o := .dK (mergeK [] [((Sum.inr z : Key), V.int am)])) npd
        have hpd : upd Hd pd (.dK (mergeK [] [((Sum.inr z : Key), V.int am)])) pd = some (.dK (moreK [(z, am)])) := upd_same
        generalize upd Hd pd (.dK (mergeK [] [((Sum.inr z : Key), V.int am)])) = He at se hpd
        refine ⟨b, pd, bkOf zs D, [(z, am)], rfl, book_same hbd se, g.ok, hpd, fo, fun b' Hf sf nb hb' => ?_⟩
        rw [eM] at hb'
        have sdf := se.trans sf
        have fin : S34 K C Hf p m b' zs (fellD D (zs.idxOf z) (f' + am)) (36 + i) := ⟨hpd'.same sdf, model_same hM' sdf, hb', gg, gbb, bdd, stc.np⟩
        exact ⟨_, _, _, _, _, _, rfl, wd.same sdf, fin.up (by omega)⟩
      · rw [show decide (mo > 0) = false from decide_eq_false hpos]
        refine iteF ?_
        refine ⟨.ref p, rfl, .ref p, rfl, p, 2, rfl, st9.pot, litM _ (by decide) (by decide), fun sz Ha sz0 sz1 hpa bta => ?_⟩
        have sta := st9.draw hpa bta
        have wa := w9.but bta st9.pot
        refine ⟨p, sz, rfl, by omega, sta.pot, fun n Hc am hpc btc => ?_⟩
        have stc := sta.draw hpc btc
        have wc := wa.but btc sta.pot
        have hM := stc.mod
        have hj : zs.idxOf z < D.given.length := (List.getElem?_eq_some_iff.mp eg).1
        refine ⟨.ref m.m, rfl, m.m, .ref m.dg, rfl, hM.g1, .str z, rfl, m.dg, .int gv, rfl, hM.gg ej eg, _, rfl, _, _, rfl, rfl, .ref m.m, rfl, m.m, .ref m.dg, rfl, hM.g1, .str z, rfl, m.dg, _, rfl, DPut.k (k := Sum.inr z) hM.hg (by rw [dct_len (by rw [List.length_map, hM.lg])]; exact small1000 (by omega)), ?_⟩
        rw [dct_put hM.zn ej (by rw [List.length_map]; exact hj), map_set V.int]
        have hM' := hM.setG (j := zs.idxOf z) (gv + n)
        have ed : { D with given := D.given.set (zs.idxOf z) (gv + n) } = doneD zs D (.give z n) := by
          show _ = { D with given := D.given.set (zs.idxOf z) (D.given.getD (zs.idxOf z) 0 + n) }
          rw [getD_of eg]
        rw [ed] at hM'
        have bfd : But m.dg Hc (upd Hc m.dg (.dK (dct zs ((D.given.set (zs.idxOf z) (gv + n)).map V.int)))) := fun c o n e => (upd_ne n).trans e
        have wd := wc.butD bfd hM.hg (nwm _ (.inr (.inr (.inl rfl))))
        have kpd : Kp Hc (upd Hc m.dg (.dK (dct zs ((D.given.set (zs.idxOf z) (gv + n)).map V.int)))) := fun c o e f => bfd c o (fun z => by rw [z, hM.hg] at e; cases e; exact f) e
        have hpd' : Pot (upd Hc m.dg (.dK (dct zs ((D.given.set (zs.idxOf z) (gv + n)).map V.int)))) p := by
          obtain ⟨px, py, pe, pr⟩ := stc.pot
          exact ⟨px, py, bfd _ _ (fun z => stc.np (z ▸ .inr (.inr (.inl rfl)))) pe, pr⟩
        have hbd := stc.bk.keep kpd
        generalize upd Hc m.dg (.dK (dct zs ((D.given.set (zs.idxOf z) (gv + n)).map V.int))) = Hd at hM' wd hpd' hbd
        obtain ⟨dx, tn, on, wg, ws, wd', e, _⟩ := hbd.ex
        obtain ⟨g9, gb9, bd9⟩ := deed_ok (d := .give z n) stc.g stc.gb stc.bd (by omega) ⟨hz, am.1, am.2⟩
        refine ⟨.ref b, rfl, b, dx, _, rfl, e, bf_no (NoF.mk' (by decide +kernel)), .str z, rfl, .int n, rfl, b, bkOf zs D, z, zs.idxOf z, n, rfl, hbd, g.ok, ej, am.1, fun b' Hf sf nb hb' => ?_⟩
        have hb2 : BookAt K C Hf b' (bkOf zs (doneD zs D (.give z n))) := hb'
        have fin : S34 K C Hf p m b' zs (doneD zs D (.give z n)) (36 + i + 1) := ⟨hpd'.same sf, model_same hM' sf, hb2, g9, gb9, bd9, stc.np⟩
        exact ⟨_, _, _, _, _, _, rfl, wd.same sf, fin.up (by omega)⟩
    · obtain ⟨b, D, y3, y4, y5, y6, rfl, w2, st2⟩ := hP
      exact q H2 w2

end
end Rc

namespace Rc
open PySem PySem.Spec PyProof.Rows L2 RZ LamX
section
variable {P : Program} {w : World} {K : PySem.W.Frag} {mg : Str → Option Value} {base : Heap}
/-! ### law -/
abbrev sLaw : Stmt := topS 49
abbrev nLaw : List Str := ["_law_script", "_law_k"]
theorem scLaw : FnScope nLaw ["_law_script"] (defScope sLaw) := ⟨rfl, rfl, rfl, by decide +kernel, rfl, by decide +kernel, by decide +kernel⟩
theorem ok_law {f fP fR : Addr} {fd fdP fdR : FuncData} {T : List (Addr × Str)} (F : Fun K "law" "law" sLaw f fd) (B : Blt mg) (B2 : Blt2 mg)
    (LP : Has P w K mg base 3 "_law_pot" ["_law_script", "_law_k"] (spPot K) fP fdP) (RT : HasG P w K mg base 11 "_law_right" ["_law_pot_here"] (spLRtT T) fR fdR) : FnG P w K mg base CX0 (11 + 1) f fd ["_law_script"] (spLawT K T) := by
  refine okG0 F scLaw (fun vs H Q E h => ?_) (fun cdv A outer s H vs Q E hr hg h => ?_)
  · obtain ⟨a, d, rfl, _⟩ := h
    rfl
  · obtain ⟨a, ns, rfl, hS, hlen, tT, q⟩ := h
    have hr3 := hr.mono (show 3 ≤ 11 by decide)
    refine ⟨_, pss_cons (ps_for PassesOwn.never rfl (pi_range1 (by rfl) B2.range (pa_cons (pe_callB (call_max2 rfl) (by rfl) B2.max (by decide +kernel) (pa_cons pe_int (pa_cons (pe_callB (call_min2 rfl) (by rfl) B2.min (by decide +kernel)
          (pa_cons (pe_callB call_len_seq (by rfl) B.len PySem.boot_len (pa_cons (pv 0) pa_nil)) (pa_cons pe_int pa_nil))) pa_nil))) pa_nil)) (pg_name (i := 1) scLaw.nd rfl (.inl rfl))
        (pss_one (ps_if (pt_not (pt_val (pe_callG RT.ok hr hg (by rfl) RT.g RT.kp RT.b .nil pass0 (pa_cons (pe_call LP.ok hr3 (by rfl) LP.g LP.kp LP.b .nil pass0 (pa_cons (pv 0) (pa_cons (pv 1) pa_nil))) pa_nil)))) (pss_one (ps_ret pe_bl)) pss_nil)))
      (pss_one (ps_ret pe_bl)), ?_⟩
    refine ⟨.ref a, rfl, a, _, rfl, .inl hS, _, _, rfl, _, _, rfl, ?_⟩
    have nb : ∃ n : Nat, n ≤ 63 ∧ (if (if (4 : Int) < ((ns.map V.int).length : Int) then (4 : Int) else ((ns.map V.int).length : Int)) > 1 then (if (4 : Int) < ((ns.map V.int).length : Int) then (4 : Int) else ((ns.map V.int).length : Int)) else 1) = (n : Int) := by
      rw [List.length_map]
      refine ⟨(if (if (4 : Int) < (ns.length : Int) then (4 : Int) else (ns.length : Int)) > 1 then (if (4 : Int) < (ns.length : Int) then (4 : Int) else (ns.length : Int)) else 1).toNat, ?_, ?_⟩ <;> (split <;> split <;> omega)
    obtain ⟨n, hn, en⟩ := nb
    refine ⟨_, congrArg (fun z => [V.int z]) en, by omega, by omega, ?_⟩
    refine for_it walk_range (fun i σ H' => ∃ y1, σ = [some (.ref a), y1] ∧ Wd T H H') ⟨_, rfl, ExtN.refl _, tT⟩ (fun _ _ _ _ _ => trivial) (fun i x σ H1' H1 hi hP hY => ?_) (fun σ H1 hP => ?_)
    · obtain ⟨rfl, rfl⟩ := hY
      obtain ⟨y1, rfl, w1⟩ := hP
      have hi' : i < n := by simpa using hi
      refine ⟨.ref a, rfl, .int (0 + i), rfl, a, ns, _, rfl, sql_ext hS w1.e, by omega, by omega, fun p o np hp => ?_⟩
      have nw := w1.nw np
      have wG := w1.same (same_upd (o := o) np)
      refine ⟨p, rfl, hp, wG.t, fun H2 bt2 => ⟨_, rfl, iteF ⟨_, rfl, ⟨fun c u e t => ?_, bt2.t⟩⟩⟩⟩
      exact bt2.e c u (nw.ne e t) t (wG.e c u e t)
    · exact q _
end
end Rc

namespace Rc
open PySem PySem.Spec PyProof.Rows L2
/-- a def of the text, by its name -/
def DefOf {K : PySem.W.Frag} {h : Heap} (_ : K.In h) (mg : Str → Option Value) (nm : Str) (st : Stmt) : Prop := ∃ f fd, Fun K nm nm st f fd ∧ mg nm = some (.ref f)
theorem mkDef {K : PySem.W.Frag} {h : Heap} {mg : Str → Option Value} (X : K.In h) (G : h.Ns mainGlobals mg) {nm : Str} {st : Stmt} {f : Addr} {oc : Value} {od an : Option Addr} {osl : Array (Option Value)} {kV doc pm cdv ct : Value}
    (a : PySem.W.nsIn K mainGlobals nm = some (some (.ref f)))
    (l : K.lookup f = some ⟨oc, od, .func (PySem.W.fnOf nm nm (defArgs st) (defBody st) (defScope st) .none kV doc pm an cdv ct), osl⟩)
    (c : PySem.W.codeIn K cdv nm = true) (k : PySem.W.keepIn K (.ref f) = true) : DefOf X mg nm st := ⟨f, _, fun_mk l c k, PySem.W.mg_of X G a⟩
/-- a method of the class C -/
def MethOf (K : PySem.W.Frag) (C : Addr) (nm qual : Str) (st : Stmt) : Prop := ∃ f fd, Fun K nm qual st f fd ∧ Meth K C nm f
theorem mkMeth {K : PySem.W.Frag} {C : Addr} {nm qual : Str} {st : Stmt} {f : Addr} {oc : Value} {od an : Option Addr} {osl : Array (Option Value)} {kV doc pm cdv ct : Value}
    (a : PySem.W.findIn K (.ref C) nm = some (some (.ref f))) (i : PySem.W.isFn K (.ref f) = true)
    (l : K.lookup f = some ⟨oc, od, .func (PySem.W.fnOf nm qual (defArgs st) (defBody st) (defScope st) .none kV doc pm an cdv ct), osl⟩)
    (c : PySem.W.codeIn K cdv qual = true) (k : PySem.W.keepIn K (.ref f) = true) : MethOf K C nm qual st := ⟨f, _, fun_mk l c k, a, i, k⟩
structure TopB (K : PySem.W.Frag) (mg : Str → Option Value) (C : Addr) : Prop where
  T : ClsF K C
  g : mg "Book" = some (.ref C)
  makes : PySem.W.makesIn K C = true
  kp : PySem.W.keepIn K (.ref C) = true
theorem mkTop {K : PySem.W.Frag} {h : Heap} {mg : Str → Option Value} {C : Addr} (X : K.In h) (G : h.Ns mainGlobals mg) (a : PySem.W.nsIn K mainGlobals "Book" = some (some (.ref C)))
    (pg : PySem.W.plainGet K C Str.empty = true) (hd : PySem.W.hasDictIn K C = true) (po : PySem.W.plainOver K C = true) (sa : PySem.W.findIn K (.ref C) "__setattr__" = some (some (.builtin "object.__setattr__"))) (mk : PySem.W.makesIn K C = true) (kc : PySem.W.keepIn K (.ref C) = true)
    (n1 : PySem.W.findIn K (.ref C) "names" = some none) (n2 : PySem.W.findIn K (.ref C) "gifts" = some none) (n3 : PySem.W.findIn K (.ref C) "stacks" = some none) (n4 : PySem.W.findIn K (.ref C) "drops" = some none) : TopB K mg C :=
  ⟨⟨⟨pg, hd, po, sa⟩, n1, n2, n3, n4⟩, PySem.W.mg_of X G a, mk, kc⟩
def ConOf (mg : Str → Option Value) (nm : Str) (v : V) : Prop := ∃ u, mg nm = some u ∧ RelV v u
theorem con_of {K : PySem.W.Frag} {h : Heap} {mg : Str → Option Value} (X : K.In h) (G : h.Ns mainGlobals mg) {nm : Str} {v : V} {u : Value} (a : PySem.W.nsIn K mainGlobals nm = some (some u)) (r : RelV v u) : ConOf mg nm v := ⟨u, PySem.W.mg_of X G a, r⟩
section
variable {K : PySem.W.Frag} {nm q x y z u4 : Str} {st : Stmt} {f : Addr} {fd : FuncData}
theorem bind1 (F : Fun K nm q st f fd)
    (h : ∀ (kV doc pm : Value) (an : Option Addr) (cdv ct v : Value), bindArgs (PySem.W.fnOf nm q (defArgs st) (defBody st) (defScope st) .none kV doc pm an cdv ct) ⟨[v], []⟩ = pure [(x, v)]) : Binds K fd [x] [] :=
  F.binds (ps := [x]) fun kV doc pm an cdv ct us hl => match us, hl with | [v], _ => h kV doc pm an cdv ct v
theorem bind2 (F : Fun K nm q st f fd)
    (h : ∀ (kV doc pm : Value) (an : Option Addr) (cdv ct u v : Value), bindArgs (PySem.W.fnOf nm q (defArgs st) (defBody st) (defScope st) .none kV doc pm an cdv ct) ⟨[u, v], []⟩ = pure [(x, u), (y, v)]) : Binds K fd [x, y] [] :=
  F.binds (ps := [x, y]) fun kV doc pm an cdv ct us hl => match us, hl with | [u, v], _ => h kV doc pm an cdv ct u v
theorem bind3 (F : Fun K nm q st f fd)
    (h : ∀ (kV doc pm : Value) (an : Option Addr) (cdv ct u v w : Value), bindArgs (PySem.W.fnOf nm q (defArgs st) (defBody st) (defScope st) .none kV doc pm an cdv ct) ⟨[u, v, w], []⟩ = pure [(x, u), (y, v), (z, w)]) : Binds K fd [x, y, z] [] :=
  F.binds (ps := [x, y, z]) fun kV doc pm an cdv ct us hl => match us, hl with | [u, v, w], _ => h kV doc pm an cdv ct u v w
theorem bind4 (F : Fun K nm q st f fd)
    (h : ∀ (kV doc pm : Value) (an : Option Addr) (cdv ct u v w t : Value), bindArgs (PySem.W.fnOf nm q (defArgs st) (defBody st) (defScope st) .none kV doc pm an cdv ct) ⟨[u, v, w, t], []⟩ = pure [(x, u), (y, v), (z, w), (u4, t)]) : Binds K fd [x, y, z, u4] [] :=
  F.binds (ps := [x, y, z, u4]) fun kV doc pm an cdv ct us hl => match us, hl with | [u, v, w, t], _ => h kV doc pm an cdv ct u v w t
end
section
variable {P : Program} {w : World} {K : PySem.W.Frag} {mg : Str → Option Value} {base : Heap} {C f : Addr} {fd : FuncData} {k : Nat} {nm : Str} {ps : List Str} {sp : Sp} {st : Stmt}
end
end Rc

namespace Rc
open PySem PySem.Spec PyProof.Rows L2 RZ LamX
/-- a def whose code object stands at c -/
def DefOfC {K : PySem.W.Frag} {h : Heap} (_ : K.In h) (mg : Str → Option Value) (nm : Str) (st : Stmt) (c : Addr) : Prop := ∃ f fd, Fun K nm nm st f fd ∧ mg nm = some (.ref f) ∧ fd.code = .ref c
theorem mkDefC {K : PySem.W.Frag} {h : Heap} {mg : Str → Option Value} (X : K.In h) (G : h.Ns mainGlobals mg) {nm : Str} {st : Stmt} {f c : Addr} {oc : Value} {od an : Option Addr} {osl : Array (Option Value)} {kV doc pm ct : Value}
    (a : PySem.W.nsIn K mainGlobals nm = some (some (.ref f)))
    (l : K.lookup f = some ⟨oc, od, .func (PySem.W.fnOf nm nm (defArgs st) (defBody st) (defScope st) .none kV doc pm an (.ref c) ct), osl⟩)
    (cd : PySem.W.codeIn K (.ref c) nm = true) (k : PySem.W.keepIn K (.ref f) = true) : DefOfC X mg nm st c := ⟨f, _, fun_mk l cd k, PySem.W.mg_of X G a, rfl⟩
/-- what is asked of the table of code -/
theorem law_tab {l : PySem.W.OpenLaw} {w : World} {K : PySem.W.Frag} {CX : CXT} {k : Nat} {mg : Str → Option Value} {fa : Addr} {h : Heap} {c PT : Addr} {fd : FuncData} {q : Str} (X : K.In h) (hT : h.get? PT = some { cls := .none, data := .fields #[] }) (nT : K.lookup PT = none) (CH : PySem.W.codeHdIn K c PT = true)
    (hb : ∀ (s : Shared) (u : Value), BindsTo s fd ⟨[u], []⟩ [("_law_script", u)]) (F : ∀ base : Heap, K.In base → base.Ns mainGlobals mg → TabB base mg c PT → FnG l.prog w K mg base CX k fa fd ["_law_script"] (spLawT K [(PT, q)])) : LawAtG l w K CX k 63 "_law_script" mg fa h := by
  refine ⟨fd, [(c, PT)], spLawT K [(PT, q)], fun p hp => ?_, hb, fun H a ns hl hH hS => ⟨a, ns, rfl, hS, hl, fun p hp => ?_, fun _ => rfl⟩, fun base b1 b2 b3 => F base b1 b2 (b3 (c, PT) List.mem_cons_self)⟩
  · rw [List.mem_singleton.mp hp]
    exact ⟨hT, nT, PySem.W.codeHd_of_K X CH⟩
  · rw [List.mem_singleton.mp hp]
    exact TabS.nil (hH (c, PT) List.mem_cons_self)
end Rc

namespace Rc
open PySem PySem.W PySem.Calls PyProof.Rows
abbrev RR : PySem.W.OpenRow := PySem.W.OpenLaw.row PySem.Challenge.rw_ringclear_k34_whole_all_rings
def qv : Program := PySem.W.view RR.prog [49]
def ln0 : List PySem.Str := ["BookError", "NoBook", "NoAmount", "NoVector", "NoSuch", "Full", "Short", "due_of", "all_dues", "trail_by", "ring_by", "rings_by", "check_person", "ring_of", "all_rings", "LETTERS", "LONGEST", "is_name", "is_whole", "is_amount", "MOST", "MOST_PERSONS", "check_persons", "check_amount", "split_notes", "with_changed", "Book", "_law_pot", "_law_take", "_law_name"]
def ln1 : List PySem.Str := ["_law_names", "_law_among", "_law_amount", "_law_model", "_law_parted", "_law_left", "_law_cash", "_law_noted", "_law_leads", "_law_comes_back", "_law_rings_right", "_law_due_right", "_law_own", "_law_right"]
def looseN : List PySem.Str := ln0 ++ ln1
/-- what the hook of the objects and the tables sees, off the tree -/
def obK (as ts : List Addr) : PySem.W.SharedT → List (Option Obj) × List (Option Obj) := fun s => (as.map (HandSHeadRun.getT s), ts.map (HandSHeadRun.getT s))
theorem obK_ok {K : Params → PySem.W.Frag} {as ts : List Addr} {e : ∀ P, as = (K P).map (·.1)} (s : PySem.W.SharedT) : obK as ts s = (PySem.W.kmHook K as e ts).obs s.abs := by
  have h : ∀ l : List Addr, l.map (HandSHeadRun.getT s) = l.map s.abs.heap.get? := fun l => List.map_congr_left fun a _ => HandSHeadRun.getT_eq s a
  show (as.map (HandSHeadRun.getT s), ts.map (HandSHeadRun.getT s)) = (as.map s.abs.heap.get?, ts.map s.abs.heap.get?)
  rw [h as, h ts]
def dL : DefRec := HandSHeadRun.topDef RR.prog 49
theorem hx1 : PySem.W.opening RR.prog = PySem.W.plainProg RR.prog.main.scope.names := by kernel_rfl
theorem hx2 : ∀ s, fenceModules? RR.prog s = some s := fun s => by kernel_rfl
theorem hx3 : defOf qv RR.name = some (dL, []) := by kernel_rfl
theorem hx4 : RR.prog.theDef RR.name = some (dL.params, dL.body, dL.scope) := by kernel_rfl
theorem hx5 : PySem.W.kwWritten? dL.params.kwonlyargs dL.params.kw_defaults = some [] := by kernel_rfl
theorem hx6 : (!RR.writes || RR.records.isEmpty) = true := by kernel_rfl
theorem hx7 : (PySem.W.chainsOk qv && PySem.W.opensWell RR.prog && (PySem.W.frees RR.toRowW && RR.within.isEmpty)) = true := by kernel_rfl
theorem hx8 : RR.prog.bare := ⟨by kernel_rfl, by kernel_rfl, by kernel_rfl, by kernel_rfl, by kernel_rfl, by decide +kernel⟩
theorem dL_name : dL.name = "law" := by kernel_rfl
theorem dL_defs : dL.params.defaults = [] := by kernel_rfl
end Rc

set_option pp.maxSteps 300
set_option pp.deepTerms false
open PySem PySem.W PyProof.Rows
local macro_rules | `(tactic| o_head ($f:ident $K $as $e $ts)) => `(tactic| (refine HandSHeadRun.head_any (r := PySem.W.OpenLaw.row PySem.Challenge.rw_ringclear_k34_whole_all_rings) (q := Rc.qv) (H := PySem.W.kmHook $K $as ?he $ts) (ob := Rc.obK $as $ts) (M := 20000) (loose := Rc.looseN) (kwd := []) (d := Rc.dL) Rc.obK_ok Rc.hx1 Rc.hx2 ?hrun Rc.hx3 Rc.hx4 Rc.hx5 Rc.hx6 ?hsaid Rc.hx7 Rc.hx8 ?hw ?hc; (case he => intro P; kernel_rfl)))
set_option maxHeartbeats 0 in
theorem Rc.hdA (hr : ∀ K as e ts w, HandSHeadRun.RunEq (PySem.W.OpenLaw.row PySem.Challenge.rw_ringclear_k34_whole_all_rings) Rc.qv (PySem.W.kmHook K as e ts) (Rc.obK as ts) 20000 Rc.looseN w) (hc : ∀ K as e ts, WalkO Rc.qv Rc.looseN (XL Rc.qv []) (PySem.W.kmHook K as e ts).says (PySem.W.OpenLaw.row PySem.Challenge.rw_ringclear_k34_whole_all_rings).toRowW Rc.dL [] fun f vs => call f vs) : PySem.Challenge.rw_ringclear_k34_whole_all_rings.Holds := by
  w_on; o_law; km_head
  (case hsaid => assumption)
  (case hrun => exact fun w => hr _ _ _ _ w)
  (case hw => w_witness2)
  exact hc _ _ _ _
namespace Rc
def asK0 : List Addr := [2, 3, 15, 22, 23, 24, 25, 28, 31, 36, 37, 39, 40, 42, 43, 44, 45, 46, 49, 56, 57, 58, 61, 68, 69, 70, 73, 76, 81, 82, 84, 85, 87, 88, 89, 90, 91, 92, 95, 98]
def asK1 : List Addr := [103, 104, 106, 107, 109, 110, 111, 112, 113, 114, 117, 120, 125, 126, 128, 129, 131, 132, 133, 134, 135, 136, 139, 141, 142, 144, 145, 146, 149, 150, 151, 153, 154, 156, 157, 158, 161, 162, 163, 165]
def asK2 : List Addr := [166, 168, 169, 170, 172, 173, 175, 176, 177, 179, 180, 182, 183, 184, 186, 187, 189, 190, 191, 194, 195, 196, 198, 199, 201, 202, 203, 205, 206, 208, 209, 210, 212, 213, 215, 216, 217, 219, 220, 222]
def asK3 : List Addr := [223, 224, 226, 227, 229, 230, 231, 233, 234, 236, 237, 245, 247, 248, 250, 251, 252, 254, 255, 257, 258, 259, 261, 262, 264, 265, 266, 268, 269, 271, 272, 273, 275, 276, 278, 279, 280, 282, 283, 285]
def asK4 : List Addr := [286, 287, 289, 290, 292, 293, 294, 296, 297, 299, 300, 301, 303, 304, 306, 307, 308, 311, 312, 313, 316, 317, 318, 320, 321, 323, 324, 325, 328, 329, 330, 332, 333, 335, 336, 337, 339, 340, 342, 343]
def asK5 : List Addr := [344, 347, 348, 349, 351, 352, 354, 355, 356, 359, 360, 361, 363, 364, 366, 367, 368, 370, 371, 373, 374, 375, 376, 377, 378, 379, 382, 384, 385, 387, 388, 389, 391, 392, 394, 395, 396, 399, 400, 401]
def asK6 : List Addr := [403, 404, 406, 407, 408, 410, 411, 413, 414, 415, 417, 418, 420, 421, 422, 425, 426, 427, 429, 430, 432, 433, 434, 436, 437, 439, 440, 441, 444, 445, 446, 448, 449, 451, 452, 453, 455, 456, 458, 459]
def asK7 : List Addr := [460, 462, 463, 465, 466, 467, 470, 471, 472, 474, 475, 477, 478, 479, 481, 482, 484, 485, 486, 489, 490, 491, 493, 494, 496, 497]
def asK : List Addr := asK0 ++ (asK1 ++ (asK2 ++ (asK3 ++ (asK4 ++ (asK5 ++ (asK6 ++ (asK7)))))))
abbrev tsK : List Addr := [468]
theorem eK : ∀ P, asK = (hdA.heap_39 P).map (·.1) := fun P => by kernel_rfl
set_option maxHeartbeats 0 in
theorem run1 (w : PySem.World) : HandSHeadRun.RunEq (PySem.W.OpenLaw.row PySem.Challenge.rw_ringclear_k34_whole_all_rings) qv (PySem.W.kmHook hdA.heap_39 asK eK tsK) (obK asK tsK) 20000 looseN (w.withFollow "special-get-raises" false) := by
  intro os
  kernel_rfl
set_option maxHeartbeats 0 in
theorem run2 (w : PySem.World) : HandSHeadRun.RunEq (PySem.W.OpenLaw.row PySem.Challenge.rw_ringclear_k34_whole_all_rings) qv (PySem.W.kmHook hdA.heap_39 asK eK tsK) (obK asK tsK) 20000 looseN (w.withFollow "special-get-raises" true) := by
  intro os
  kernel_rfl
end Rc

namespace Rc
open PySem PySem.Spec PyProof.Rows L2 LamX
set_option maxHeartbeats 0 in
theorem all_mk {l : PySem.W.OpenLaw} {w : World} {K : PySem.W.Frag} {h : Heap} {mg : Str → Option Value} {fa C c PT : Addr} (X : K.In h)
    (hfa : mg "law" = some (.ref fa))
    (hT : h.get? PT = some { cls := .none, data := .fields #[] })
    (nT : K.lookup PT = none)
    (TC : TopB K mg C)
    (d_is_name : DefOf X mg "is_name" (topS 20))
    (d_is_whole : DefOf X mg "is_whole" (topS 21))
    (d_is_amount : DefOf X mg "is_amount" (topS 22))
    (d_check_persons : DefOf X mg "check_persons" (topS 26))
    (d_check_amount : DefOf X mg "check_amount" (topS 27))
    (d_split_notes : DefOf X mg "split_notes" (topS 28))
    (d_with_changed : DefOf X mg "with_changed" (topS 29))
    (d_due_of : DefOf X mg "due_of" (topS 9))
    (d_all_dues : DefOf X mg "all_dues" (topS 10))
    (d_trail_by : DefOf X mg "trail_by" (topS 11))
    (d_ring_by : DefOf X mg "ring_by" (topS 12))
    (d_check_person : DefOf X mg "check_person" (topS 14))
    (d_ring_of : DefOf X mg "ring_of" (topS 15))
    (d_rings_by : DefOf X mg "rings_by" (topS 13))
    (d_all_rings : DefOf X mg "all_rings" (topS 16))
    (d_l_pot : DefOf X mg "_law_pot" (topS 32))
    (d_l_take : DefOf X mg "_law_take" (topS 33))
    (d_l_name : DefOf X mg "_law_name" (topS 34))
    (d_l_names : DefOf X mg "_law_names" (topS 35))
    (d_l_among : DefOf X mg "_law_among" (topS 36))
    (d_l_amount : DefOf X mg "_law_amount" (topS 37))
    (d_l_model : DefOf X mg "_law_model" (topS 38))
    (d_l_parted : DefOf X mg "_law_parted" (topS 39))
    (d_l_left : DefOf X mg "_law_left" (topS 40))
    (d_l_cash : DefOf X mg "_law_cash" (topS 41))
    (d_l_noted : DefOf X mg "_law_noted" (topS 42))
    (d_l_leads : DefOf X mg "_law_leads" (topS 43))
    (d_l_comes_back : DefOf X mg "_law_comes_back" (topS 44))
    (d_l_due_right : DefOf X mg "_law_due_right" (topS 46))
    (d_l_own : DefOf X mg "_law_own" (topS 47))
    (d_l_right : DefOf X mg "_law_right" (topS 48))
    (d_law : DefOf X mg "law" (topS 49))
    (m_init : MethOf K C "__init__" "Book.__init__" (inBook 0))
    (m_with_these : MethOf K C "with_these" "Book.with_these" (inBook 1))
    (m_has : MethOf K C "has" "Book.has" (inBook 4))
    (m_place_of : MethOf K C "place_of" "Book.place_of" (inBook 2))
    (m_persons : MethOf K C "persons" "Book.persons" (inBook 3))
    (m_given : MethOf K C "given" "Book.given" (inBook 5))
    (m_fallen : MethOf K C "fallen" "Book.fallen" (inBook 6))
    (m_notes : MethOf K C "notes" "Book.notes" (inBook 7))
    (m_pile : MethOf K C "pile" "Book.pile" (inBook 8))
    (m_fallen_to : MethOf K C "fallen_to" "Book.fallen_to" (inBook 10))
    (m_cash : MethOf K C "cash" "Book.cash" (inBook 11))
    (m_put : MethOf K C "put" "Book.put" (inBook 12))
    (m_give : MethOf K C "give" "Book.give" (inBook 13))
    (m_whole_of : MethOf K C "whole_of" "Book.whole_of" (inBook 9))
    (m_may_fall : MethOf K C "may_fall" "Book.may_fall" (inBook 14))
    (m_let_fall : MethOf K C "let_fall" "Book.let_fall" (inBook 15))
    (dcp : DefOfC X mg "_law_rings_right" (topS 45) c)
    (CH : PySem.W.codeHdIn K c PT = true)
    (c_LETTERS : ConOf mg "LETTERS" (.str "abcdefghijklmnopqrstuvwxyz"))
    (c_LONGEST : ConOf mg "LONGEST" (.int 8))
    (c_MOST : ConOf mg "MOST" (.int 60))
    (c_MOST_PERSONS : ConOf mg "MOST_PERSONS" (.int 12))
    (B : Blt mg)
    (B2 : Blt2 mg)
    (B3 : Blt3 mg)
    (gS : mg "sorted" = none) :
    LawAtG l w K CX0 12 63 "_law_script" mg fa h := by
  obtain ⟨f_is_name, fd_is_name, F_is_name, g_is_name⟩ := d_is_name
  obtain ⟨f_is_whole, fd_is_whole, F_is_whole, g_is_whole⟩ := d_is_whole
  obtain ⟨f_is_amount, fd_is_amount, F_is_amount, g_is_amount⟩ := d_is_amount
  obtain ⟨f_check_persons, fd_check_persons, F_check_persons, g_check_persons⟩ := d_check_persons
  obtain ⟨f_check_amount, fd_check_amount, F_check_amount, g_check_amount⟩ := d_check_amount
  obtain ⟨f_split_notes, fd_split_notes, F_split_notes, g_split_notes⟩ := d_split_notes
  obtain ⟨f_with_changed, fd_with_changed, F_with_changed, g_with_changed⟩ := d_with_changed
  obtain ⟨f_due_of, fd_due_of, F_due_of, g_due_of⟩ := d_due_of
  obtain ⟨f_all_dues, fd_all_dues, F_all_dues, g_all_dues⟩ := d_all_dues
  obtain ⟨f_trail_by, fd_trail_by, F_trail_by, g_trail_by⟩ := d_trail_by
  obtain ⟨f_ring_by, fd_ring_by, F_ring_by, g_ring_by⟩ := d_ring_by
  obtain ⟨f_check_person, fd_check_person, F_check_person, g_check_person⟩ := d_check_person
  obtain ⟨f_ring_of, fd_ring_of, F_ring_of, g_ring_of⟩ := d_ring_of
  obtain ⟨f_rings_by, fd_rings_by, F_rings_by, g_rings_by⟩ := d_rings_by
  obtain ⟨f_all_rings, fd_all_rings, F_all_rings, g_all_rings⟩ := d_all_rings
  obtain ⟨f_l_pot, fd_l_pot, F_l_pot, g_l_pot⟩ := d_l_pot
  obtain ⟨f_l_take, fd_l_take, F_l_take, g_l_take⟩ := d_l_take
  obtain ⟨f_l_name, fd_l_name, F_l_name, g_l_name⟩ := d_l_name
  obtain ⟨f_l_names, fd_l_names, F_l_names, g_l_names⟩ := d_l_names
  obtain ⟨f_l_among, fd_l_among, F_l_among, g_l_among⟩ := d_l_among
  obtain ⟨f_l_amount, fd_l_amount, F_l_amount, g_l_amount⟩ := d_l_amount
  obtain ⟨f_l_model, fd_l_model, F_l_model, g_l_model⟩ := d_l_model
  obtain ⟨f_l_parted, fd_l_parted, F_l_parted, g_l_parted⟩ := d_l_parted
  obtain ⟨f_l_left, fd_l_left, F_l_left, g_l_left⟩ := d_l_left
  obtain ⟨f_l_cash, fd_l_cash, F_l_cash, g_l_cash⟩ := d_l_cash
  obtain ⟨f_l_noted, fd_l_noted, F_l_noted, g_l_noted⟩ := d_l_noted
  obtain ⟨f_l_leads, fd_l_leads, F_l_leads, g_l_leads⟩ := d_l_leads
  obtain ⟨f_l_comes_back, fd_l_comes_back, F_l_comes_back, g_l_comes_back⟩ := d_l_comes_back
  obtain ⟨f_l_due_right, fd_l_due_right, F_l_due_right, g_l_due_right⟩ := d_l_due_right
  obtain ⟨f_l_own, fd_l_own, F_l_own, g_l_own⟩ := d_l_own
  obtain ⟨f_l_right, fd_l_right, F_l_right, g_l_right⟩ := d_l_right
  obtain ⟨f_law, fd_law, F_law, g_law⟩ := d_law
  obtain ⟨f_init, fd_init, F_init, M_init⟩ := m_init
  obtain ⟨f_with_these, fd_with_these, F_with_these, M_with_these⟩ := m_with_these
  obtain ⟨f_has, fd_has, F_has, M_has⟩ := m_has
  obtain ⟨f_place_of, fd_place_of, F_place_of, M_place_of⟩ := m_place_of
  obtain ⟨f_persons, fd_persons, F_persons, M_persons⟩ := m_persons
  obtain ⟨f_given, fd_given, F_given, M_given⟩ := m_given
  obtain ⟨f_fallen, fd_fallen, F_fallen, M_fallen⟩ := m_fallen
  obtain ⟨f_notes, fd_notes, F_notes, M_notes⟩ := m_notes
  obtain ⟨f_pile, fd_pile, F_pile, M_pile⟩ := m_pile
  obtain ⟨f_fallen_to, fd_fallen_to, F_fallen_to, M_fallen_to⟩ := m_fallen_to
  obtain ⟨f_cash, fd_cash, F_cash, M_cash⟩ := m_cash
  obtain ⟨f_put, fd_put, F_put, M_put⟩ := m_put
  obtain ⟨f_give, fd_give, F_give, M_give⟩ := m_give
  obtain ⟨f_whole_of, fd_whole_of, F_whole_of, M_whole_of⟩ := m_whole_of
  obtain ⟨f_may_fall, fd_may_fall, F_may_fall, M_may_fall⟩ := m_may_fall
  obtain ⟨f_let_fall, fd_let_fall, F_let_fall, M_let_fall⟩ := m_let_fall
  obtain ⟨f_l_rings_right, fd_l_rings_right, F_l_rings_right, g_l_rings_right, e_l_rings_right⟩ := dcp
  obtain ⟨u_LETTERS, g_LETTERS, t_LETTERS, rfl⟩ := c_LETTERS
  obtain ⟨u_LONGEST, g_LONGEST, t_LONGEST, rfl⟩ := c_LONGEST
  obtain ⟨u_MOST, g_MOST, t_MOST, rfl⟩ := c_MOST
  obtain ⟨u_MOST_PERSONS, g_MOST_PERSONS, t_MOST_PERSONS, rfl⟩ := c_MOST_PERSONS
  have e := hfa.symm.trans g_law
  cases e
  refine law_tab (fd := fd_law) (q := qLam34) X hT nT CH (fun s v => ?_) (fun base _ _ TB0 => ?_)
  · obtain ⟨oc, od, kV, doc, pm, an, cdv, ct, osl, rfl, lk, hcd⟩ := F_law.ex
    exact .of_eq rfl
  · have T := TC.T
    have NM : Has l.prog w K mg base 1 "is_name" ["thing"] (spBool K nameD) f_is_name fd_is_name := ⟨ok_name F_is_name B ⟨t_LETTERS, g_LETTERS⟩ ⟨t_LONGEST, g_LONGEST⟩, g_is_name, F_is_name.kp, (bind1 F_is_name fun _ _ _ _ _ _ _ => rfl)⟩
    have WH : Has l.prog w K mg base 1 "is_whole" ["thing"] (spBool K wholeD) f_is_whole fd_is_whole := ⟨ok_whole F_is_whole B, g_is_whole, F_is_whole.kp, (bind1 F_is_whole fun _ _ _ _ _ _ _ => rfl)⟩
    have AMT : Has l.prog w K mg base 2 "is_amount" ["thing"] (spBool K amountD) f_is_amount fd_is_amount := ⟨ok_amount F_is_amount F_is_whole (bind1 F_is_whole fun _ _ _ _ _ _ _ => rfl) g_is_whole B, g_is_amount, F_is_amount.kp, (bind1 F_is_amount fun _ _ _ _ _ _ _ => rfl)⟩
    have CKP : Has l.prog w K mg base 2 "check_persons" ["persons"] (spCheckP K) f_check_persons fd_check_persons := ⟨ok_checkP F_check_persons B B3 ⟨t_MOST_PERSONS, g_MOST_PERSONS⟩ NM, g_check_persons, F_check_persons.kp, (bind1 F_check_persons fun _ _ _ _ _ _ _ => rfl)⟩
    have CKA : Has l.prog w K mg base 3 "check_amount" ["amount"] (spCheckA K) f_check_amount fd_check_amount := ⟨ok_checkA F_check_amount AMT, g_check_amount, F_check_amount.kp, (bind1 F_check_amount fun _ _ _ _ _ _ _ => rfl)⟩
    have CHG : Has l.prog w K mg base 1 "with_changed" ["row", "place", "thing"] (spChg K) f_with_changed fd_with_changed := ⟨ok_chg F_with_changed, g_with_changed, F_with_changed.kp, (bind3 F_with_changed fun _ _ _ _ _ _ _ _ _ => rfl)⟩
    have SPL : Has l.prog w K mg base 1 "split_notes" ["notes", "fallen"] (spSplit K) f_split_notes fd_split_notes := ⟨ok_split F_split_notes B2, g_split_notes, F_split_notes.kp, (bind2 F_split_notes fun _ _ _ _ _ _ _ _ => rfl)⟩
    have GI : FnOk l.prog w K mg base CX0 3 f_init fd_init ["self", "persons"] (spInit K C) := ok_init F_init T B B3 CKP
    have bI : Binds K fd_init ["self", "persons"] [] := (bind2 F_init fun _ _ _ _ _ _ _ _ => rfl)
    have MK : Mk K C f_init := ⟨TC.makes, M_init.at_, M_init.fn, TC.kp⟩
    have WT : HasM l.prog w K mg base C 5 "with_these" ["self", "gifts", "stacks", "drops"] (spWith K C) f_with_these fd_with_these := ⟨ok_with F_with_these T B3 MK TC.g GI bI, M_with_these, (bind4 F_with_these fun _ _ _ _ _ _ _ _ _ _ => rfl)⟩
    have HS : HasM l.prog w K mg base C 2 "has" ["self", "who"] (spHas K C) f_has fd_has := ⟨ok_has F_has T NM, M_has, (bind2 F_has fun _ _ _ _ _ _ _ _ => rfl)⟩
    have PL : HasM l.prog w K mg base C 3 "place_of" ["self", "who"] (spPlace K C) f_place_of fd_place_of := ⟨ok_place F_place_of T HS, M_place_of, (bind2 F_place_of fun _ _ _ _ _ _ _ _ => rfl)⟩
    have PS : HasM l.prog w K mg base C 1 "persons" ["self"] (spPersons K C) f_persons fd_persons := ⟨ok_persons F_persons T B3, M_persons, (bind1 F_persons fun _ _ _ _ _ _ _ => rfl)⟩
    have GV : HasM l.prog w K mg base C 4 "given" ["self", "who"] (spNum K C Bk.gifts) f_given fd_given := ⟨ok_given F_given T PL, M_given, (bind2 F_given fun _ _ _ _ _ _ _ _ => rfl)⟩
    have FL : HasM l.prog w K mg base C 4 "fallen" ["self", "who"] (spNum K C Bk.drops) f_fallen fd_fallen := ⟨ok_fallen F_fallen T PL, M_fallen, (bind2 F_fallen fun _ _ _ _ _ _ _ _ => rfl)⟩
    have NT : HasM l.prog w K mg base C 4 "notes" ["self", "who"] (spRow K C fun l _ => l) f_notes fd_notes := ⟨ok_notes F_notes T B3 PL, M_notes, (bind2 F_notes fun _ _ _ _ _ _ _ _ => rfl)⟩
    have PI : HasM l.prog w K mg base C 5 "pile" ["self", "who"] (spRow K C leftN) f_pile fd_pile := ⟨ok_pile F_pile T SPL NT FL, M_pile, (bind2 F_pile fun _ _ _ _ _ _ _ _ => rfl)⟩
    have FT : HasM l.prog w K mg base C 4 "fallen_to" ["self", "who"] (spCalc K C fun M _ z => fallTo M z) f_fallen_to fd_fallen_to := ⟨ok_fallTo F_fallen_to T B3 PL SPL, M_fallen_to, (bind2 F_fallen_to fun _ _ _ _ _ _ _ _ => rfl)⟩
    have CS : HasM l.prog w K mg base C 5 "cash" ["self", "who"] (spCalc K C cashM) f_cash fd_cash := ⟨ok_cash F_cash T GV FT FL, M_cash, (bind2 F_cash fun _ _ _ _ _ _ _ _ => rfl)⟩
    have PU : HasM l.prog w K mg base C 6 "put" ["self", "who", "to", "amount"] (spPut K C) f_put fd_put := ⟨ok_put F_put T B B3 ⟨t_MOST, g_MOST⟩ PL CKA CHG WT, M_put, (bind4 F_put fun _ _ _ _ _ _ _ _ _ _ => rfl)⟩
    have GE : HasM l.prog w K mg base C 6 "give" ["self", "who", "amount"] (spGive K C) f_give fd_give := ⟨ok_give F_give T PL CKA CHG WT, M_give, (bind3 F_give fun _ _ _ _ _ _ _ _ _ => rfl)⟩
    have WO : HasM l.prog w K mg base C 5 "whole_of" ["self", "who"] (spCalc K C fun M j _ => wholeN (M.stacks.getD j [])) f_whole_of fd_whole_of := ⟨ok_whOf F_whole_of T B3 NT, M_whole_of, (bind2 F_whole_of fun _ _ _ _ _ _ _ _ => rfl)⟩
    have MF : HasM l.prog w K mg base C 6 "may_fall" ["self", "more"] (spMayF K C) f_may_fall fd_may_fall := ⟨ok_mayF F_may_fall T B B3 HS WH FL WO, M_may_fall, (bind2 F_may_fall fun _ _ _ _ _ _ _ _ => rfl)⟩
    have LF : HasM l.prog w K mg base C 7 "let_fall" ["self", "more"] (spLetF K C) f_let_fall fd_let_fall := ⟨ok_letF F_let_fall T B3 MF FL WT CS, M_let_fall, (bind2 F_let_fall fun _ _ _ _ _ _ _ _ => rfl)⟩
    have DU : Has l.prog w K mg base 6 "due_of" ["book", "who"] (spDue K C) f_due_of fd_due_of := ⟨ok_due F_due_of T B PI, g_due_of, F_due_of.kp, (bind2 F_due_of fun _ _ _ _ _ _ _ _ => rfl)⟩
    have AD : Has l.prog w K mg base 7 "all_dues" ["book"] (spDues K C) f_all_dues fd_all_dues := ⟨ok_dues F_all_dues T PS DU, g_all_dues, F_all_dues.kp, (bind1 F_all_dues fun _ _ _ _ _ _ _ => rfl)⟩
    have TB : Has l.prog w K mg base 1 "trail_by" ["dues", "who"] (spTrB K) f_trail_by fd_trail_by := ⟨ok_trB F_trail_by, g_trail_by, F_trail_by.kp, (bind2 F_trail_by fun _ _ _ _ _ _ _ _ => rfl)⟩
    have RB : Has l.prog w K mg base 2 "ring_by" ["dues", "who"] (spRgB K) f_ring_by fd_ring_by := ⟨ok_rgB F_ring_by TB, g_ring_by, F_ring_by.kp, (bind2 F_ring_by fun _ _ _ _ _ _ _ _ => rfl)⟩
    have CKW : Has l.prog w K mg base 3 "check_person" ["book", "who"] (spCkP K C) f_check_person fd_check_person := ⟨ok_ckP F_check_person T HS, g_check_person, F_check_person.kp, (bind2 F_check_person fun _ _ _ _ _ _ _ _ => rfl)⟩
    have RO : Has l.prog w K mg base 8 "ring_of" ["book", "who"] (spRgO K C) f_ring_of fd_ring_of := ⟨ok_rgO F_ring_of CKW RB AD, g_ring_of, F_ring_of.kp, (bind2 F_ring_of fun _ _ _ _ _ _ _ _ => rfl)⟩
    have TK : HasTake l.prog w K mg base f_l_take fd_l_take := ⟨ok_take F_l_take B2, g_l_take, F_l_take.kp, (bind2 F_l_take fun _ _ _ _ _ _ _ _ => rfl)⟩
    have AM : HasAmong l.prog w K mg base f_l_among fd_l_among := ⟨ok_among F_l_among B TK, g_l_among, F_l_among.kp, (bind2 F_l_among fun _ _ _ _ _ _ _ _ => rfl)⟩
    have LP : Has l.prog w K mg base 3 "_law_pot" ["_law_script", "_law_k"] (spPot K) f_l_pot fd_l_pot := ⟨ok_pot F_l_pot B B2, g_l_pot, F_l_pot.kp, (bind2 F_l_pot fun _ _ _ _ _ _ _ _ => rfl)⟩
    have LNM : Has l.prog w K mg base 2 "_law_name" ["_law_pot_here", "_law_used"] spLNm f_l_name fd_l_name := ⟨ok_lnm F_l_name B B2 TK, g_l_name, F_l_name.kp, (bind2 F_l_name fun _ _ _ _ _ _ _ _ => rfl)⟩
    have LNS : Has l.prog w K mg base 3 "_law_names" ["_law_pot_here", "_law_many"] spLNms f_l_names fd_l_names := ⟨ok_lnms F_l_names B2 LNM, g_l_names, F_l_names.kp, (bind2 F_l_names fun _ _ _ _ _ _ _ _ => rfl)⟩
    have LAM : Has l.prog w K mg base 2 "_law_amount" ["_law_pot_here", "_law_size"] spLAm f_l_amount fd_l_amount := ⟨ok_lam F_l_amount TK, g_l_amount, F_l_amount.kp, (bind2 F_l_amount fun _ _ _ _ _ _ _ _ => rfl)⟩
    have LMD : Has l.prog w K mg base 1 "_law_model" ["_law_names_here"] (spLMd K) f_l_model fd_l_model := ⟨ok_lmd F_l_model B3, g_l_model, F_l_model.kp, (bind1 F_l_model fun _ _ _ _ _ _ _ => rfl)⟩
    have LPT : Has l.prog w K mg base 1 "_law_parted" ["_law_model_here", "_law_who"] (spLPt K) f_l_parted fd_l_parted := ⟨ok_lpt F_l_parted B B2, g_l_parted, F_l_parted.kp, (bind2 F_l_parted fun _ _ _ _ _ _ _ _ => rfl)⟩
    have LLF : Has l.prog w K mg base 2 "_law_left" ["_law_model_here", "_law_who"] (spLLf K) f_l_left fd_l_left := ⟨ok_llf F_l_left LPT, g_l_left, F_l_left.kp, (bind2 F_l_left fun _ _ _ _ _ _ _ _ => rfl)⟩
    have RGS : Has l.prog w K mg base 3 "rings_by" ["dues"] (spRgS K) f_rings_by fd_rings_by := ⟨ok_rgS F_rings_by RB, g_rings_by, F_rings_by.kp, (bind1 F_rings_by fun _ _ _ _ _ _ _ => rfl)⟩
    have ARS : Has l.prog w K mg base 8 "all_rings" ["book"] (spArs K C) f_all_rings fd_all_rings := ⟨ok_ars F_all_rings AD RGS, g_all_rings, F_all_rings.kp, (bind1 F_all_rings fun _ _ _ _ _ _ _ => rfl)⟩
    have LCS : Has l.prog w K mg base 2 "_law_cash" ["_law_model_here", "_law_who"] (spLCs K) f_l_cash fd_l_cash := ⟨ok_lcs F_l_cash B3 LPT, g_l_cash, F_l_cash.kp, (bind2 F_l_cash fun _ _ _ _ _ _ _ _ => rfl)⟩
    have LNT : Has l.prog w K mg base 8 "_law_noted" ["_law_pot_here"] (spLNt K C) f_l_noted fd_l_noted := ⟨ok_lnt F_l_noted B B2 T TK AM LNS LMD LAM PU MK TC.g GI bI, g_l_noted, F_l_noted.kp, (bind1 F_l_noted fun _ _ _ _ _ _ _ => rfl)⟩
    have LLE : Has l.prog w K mg base 3 "_law_leads" ["_law_model_here"] (spLLe K) f_l_leads fd_l_leads := ⟨ok_lle F_l_leads LLF, g_l_leads, F_l_leads.kp, (bind1 F_l_leads fun _ _ _ _ _ _ _ => rfl)⟩
    have LCB : Has l.prog w K mg base 1 "_law_comes_back" ["_law_leads_here", "_law_who"] spLCb f_l_comes_back fd_l_comes_back := ⟨ok_lcb F_l_comes_back B B2, g_l_comes_back, F_l_comes_back.kp, (bind2 F_l_comes_back fun _ _ _ _ _ _ _ _ => rfl)⟩
    have LRR : HasG l.prog w K mg base 10 "_law_rings_right" ["_law_model_here", "_law_book"] (spLRr K C [(PT, qLam34)]) f_l_rings_right fd_l_rings_right := ⟨ok_lrr F_l_rings_right e_l_rings_right TB0 List.mem_cons_self (fun p hp _ => by rw [List.mem_singleton.mp hp]) B B2 B3 gS LLE ARS LCB RO, g_l_rings_right, F_l_rings_right.kp, (bind2 F_l_rings_right fun _ _ _ _ _ _ _ _ => rfl)⟩
    have LDU : HasG l.prog w K mg base 8 "_law_due_right" ["_law_model_here", "_law_book"] (spLDu K C) f_l_due_right fd_l_due_right := ⟨ok_ldu F_l_due_right B2 LLF DU, g_l_due_right, F_l_due_right.kp, (bind2 F_l_due_right fun _ _ _ _ _ _ _ _ => rfl)⟩
    have LOW : HasG l.prog w K mg base 9 "_law_own" ["_law_book"] (spLOw K C) f_l_own fd_l_own := ⟨ok_low F_l_own B2 ARS, g_l_own, F_l_own.kp, (bind1 F_l_own fun _ _ _ _ _ _ _ => rfl)⟩
    have LRT : HasG l.prog w K mg base 11 "_law_right" ["_law_pot_here"] (spLRtT [(PT, qLam34)]) f_l_right fd_l_right := ⟨ok_lrt F_l_right T B2 B3 TK AM LNT LRR LDU LOW LLF LCS LAM LF GE, g_l_right, F_l_right.kp, (bind1 F_l_right fun _ _ _ _ _ _ _ => rfl)⟩
    exact ok_law F_law B B2 LP LRT
end Rc

open PySem PySem.W PyProof.Rows
set_option maxHeartbeats 0 in
theorem PySem.Challenge.cw_ringclear_k34_whole_all_rings_holds : PySem.Challenge.rw_ringclear_k34_whole_all_rings.Holds := by
  w_on; o_law
  refine HandSHeadRun.head_any (r := PySem.W.OpenLaw.row PySem.Challenge.rw_ringclear_k34_whole_all_rings) (q := Rc.qv) (H := PySem.W.kmHook Rc.hdA.heap_39 Rc.asK Rc.eK Rc.tsK) (ob := Rc.obK Rc.asK Rc.tsK) (M := 20000) (loose := Rc.looseN) (kwd := []) (d := Rc.dL) Rc.obK_ok Rc.hx1 Rc.hx2 ?hrun Rc.hx3 Rc.hx4 Rc.hx5 Rc.hx6 ?hsaid Rc.hx7 Rc.hx8 ?hw ?hc
  (case hrun => exact fun w => PySem.W.byRow2 "special-get-raises" (P := HandSHeadRun.RunEq _ _ _ _ _ _) Rc.run1 Rc.run2 w)
  (case hsaid => assumption)
  (case hw => w_witness2)
  k_fill
  refine Rc.walk_ofGT (l := PySem.Challenge.rw_ringclear_k34_whole_all_rings) (n := 63) (k := 12) (x := "_law_script") (CX := fun _ => L2.CX0) rfl (by decide) Rc.dL_defs ⟨rfl, by decide, by decide⟩ (fun w h Y => PySem.W.km_in_of Y) ?F (fun _ _ _ _ _ h => h)
  case F =>
    intro w mg fa h Y KX G hmg
    rw [Rc.dL_name] at hmg
    have hT := PySem.W.km_tabs_of Y _ List.mem_cons_self
    refine' Rc.all_mk KX hmg hT ?nT ?TC ?d_is_name ?d_is_whole ?d_is_amount ?d_check_persons ?d_check_amount ?d_split_notes ?d_with_changed ?d_due_of ?d_all_dues ?d_trail_by ?d_ring_by ?d_check_person ?d_ring_of ?d_rings_by ?d_all_rings ?d_l_pot ?d_l_take ?d_l_name ?d_l_names ?d_l_among ?d_l_amount ?d_l_model ?d_l_parted ?d_l_left ?d_l_cash ?d_l_noted ?d_l_leads ?d_l_comes_back ?d_l_due_right ?d_l_own ?d_l_right ?d_law ?m_init ?m_with_these ?m_has ?m_place_of ?m_persons ?m_given ?m_fallen ?m_notes ?m_pile ?m_fallen_to ?m_cash ?m_put ?m_give ?m_whole_of ?m_may_fall ?m_let_fall ?dcp ?CH ?c_LETTERS ?c_LONGEST ?c_MOST ?c_MOST_PERSONS ?B ?B2 ?B3 ?gS
    case TC => (refine' Rc.mkTop KX G ?tcA ?tcPg ?tcHd ?tcPo ?tcSa ?tcMk ?tcKc ?tcN1 ?tcN2 ?tcN3 ?tcN4; (case tcA => k_is); (case tcPg => k_is); (case tcHd => k_is); (case tcPo => k_is); (case tcSa => k_is); (case tcMk => k_is); (case tcKc => k_is); (case tcN1 => k_is); (case tcN2 => k_is); (case tcN3 => k_is); (case tcN4 => k_is))
    case dcp => (refine' Rc.mkDefC KX G ?a_dcp ?l_dcp ?c_dcp ?k_dcp; (case a_dcp => k_is); (case l_dcp => k_is); (case c_dcp => k_is); (case k_dcp => k_is))
    case CH => kernel_rfl
    case nT => kernel_rfl
    case c_LETTERS => (refine' Rc.con_of KX G ?ca_LETTERS ?cr_LETTERS; (case ca_LETTERS => k_is); (case cr_LETTERS => exact ⟨_, rfl⟩))
    case c_LONGEST => (refine' Rc.con_of KX G ?ca_LONGEST ?cr_LONGEST; (case ca_LONGEST => k_is); (case cr_LONGEST => exact ⟨_, rfl⟩))
    case c_MOST => (refine' Rc.con_of KX G ?ca_MOST ?cr_MOST; (case ca_MOST => k_is); (case cr_MOST => exact ⟨_, rfl⟩))
    case c_MOST_PERSONS => (refine' Rc.con_of KX G ?ca_MOST_PERSONS ?cr_MOST_PERSONS; (case ca_MOST_PERSONS => k_is); (case cr_MOST_PERSONS => exact ⟨_, rfl⟩))
    case B => (refine' ⟨PySem.W.mg_none_of KX G ?Bz0, PySem.W.mg_none_of KX G ?Bz1, PySem.W.mg_none_of KX G ?Bz2, PySem.W.mg_none_of KX G ?Bz3, PySem.W.mg_none_of KX G ?Bz4, PySem.W.mg_none_of KX G ?Bz5⟩; (case Bz0 => k_is); (case Bz1 => k_is); (case Bz2 => k_is); (case Bz3 => k_is); (case Bz4 => k_is); (case Bz5 => k_is))
    case B2 => (refine' ⟨PySem.W.mg_none_of KX G ?B2z0, PySem.W.mg_none_of KX G ?B2z1, PySem.W.mg_none_of KX G ?B2z2, PySem.W.mg_none_of KX G ?B2z3, PySem.W.mg_none_of KX G ?B2z4, PySem.W.mg_none_of KX G ?B2z5⟩; (case B2z0 => k_is); (case B2z1 => k_is); (case B2z2 => k_is); (case B2z3 => k_is); (case B2z4 => k_is); (case B2z5 => k_is))
    case B3 => (refine' ⟨PySem.W.mg_none_of KX G ?B3z0, PySem.W.mg_none_of KX G ?B3z1, PySem.W.mg_none_of KX G ?B3z2, PySem.W.mg_none_of KX G ?B3z3, PySem.W.mg_none_of KX G ?B3z4, PySem.W.mg_none_of KX G ?B3z5⟩; (case B3z0 => k_is); (case B3z1 => k_is); (case B3z2 => k_is); (case B3z3 => k_is); (case B3z4 => k_is); (case B3z5 => k_is))
    case d_is_name => (refine' Rc.mkDef KX G ?a_d_is_name ?l_d_is_name ?c_d_is_name ?k_d_is_name; (case a_d_is_name => k_is); (case l_d_is_name => k_is); (case c_d_is_name => k_is); (case k_d_is_name => k_is))
    case d_is_whole => (refine' Rc.mkDef KX G ?a_d_is_whole ?l_d_is_whole ?c_d_is_whole ?k_d_is_whole; (case a_d_is_whole => k_is); (case l_d_is_whole => k_is); (case c_d_is_whole => k_is); (case k_d_is_whole => k_is))
    case d_is_amount => (refine' Rc.mkDef KX G ?a_d_is_amount ?l_d_is_amount ?c_d_is_amount ?k_d_is_amount; (case a_d_is_amount => k_is); (case l_d_is_amount => k_is); (case c_d_is_amount => k_is); (case k_d_is_amount => k_is))
    case d_check_persons => (refine' Rc.mkDef KX G ?a_d_check_persons ?l_d_check_persons ?c_d_check_persons ?k_d_check_persons; (case a_d_check_persons => k_is); (case l_d_check_persons => k_is); (case c_d_check_persons => k_is); (case k_d_check_persons => k_is))
    case d_check_amount => (refine' Rc.mkDef KX G ?a_d_check_amount ?l_d_check_amount ?c_d_check_amount ?k_d_check_amount; (case a_d_check_amount => k_is); (case l_d_check_amount => k_is); (case c_d_check_amount => k_is); (case k_d_check_amount => k_is))
    case d_split_notes => (refine' Rc.mkDef KX G ?a_d_split_notes ?l_d_split_notes ?c_d_split_notes ?k_d_split_notes; (case a_d_split_notes => k_is); (case l_d_split_notes => k_is); (case c_d_split_notes => k_is); (case k_d_split_notes => k_is))
    case d_with_changed => (refine' Rc.mkDef KX G ?a_d_with_changed ?l_d_with_changed ?c_d_with_changed ?k_d_with_changed; (case a_d_with_changed => k_is); (case l_d_with_changed => k_is); (case c_d_with_changed => k_is); (case k_d_with_changed => k_is))
    case d_due_of => (refine' Rc.mkDef KX G ?a_d_due_of ?l_d_due_of ?c_d_due_of ?k_d_due_of; (case a_d_due_of => k_is); (case l_d_due_of => k_is); (case c_d_due_of => k_is); (case k_d_due_of => k_is))
    case d_all_dues => (refine' Rc.mkDef KX G ?a_d_all_dues ?l_d_all_dues ?c_d_all_dues ?k_d_all_dues; (case a_d_all_dues => k_is); (case l_d_all_dues => k_is); (case c_d_all_dues => k_is); (case k_d_all_dues => k_is))
    case d_trail_by => (refine' Rc.mkDef KX G ?a_d_trail_by ?l_d_trail_by ?c_d_trail_by ?k_d_trail_by; (case a_d_trail_by => k_is); (case l_d_trail_by => k_is); (case c_d_trail_by => k_is); (case k_d_trail_by => k_is))
    case d_ring_by => (refine' Rc.mkDef KX G ?a_d_ring_by ?l_d_ring_by ?c_d_ring_by ?k_d_ring_by; (case a_d_ring_by => k_is); (case l_d_ring_by => k_is); (case c_d_ring_by => k_is); (case k_d_ring_by => k_is))
    case d_check_person => (refine' Rc.mkDef KX G ?a_d_check_person ?l_d_check_person ?c_d_check_person ?k_d_check_person; (case a_d_check_person => k_is); (case l_d_check_person => k_is); (case c_d_check_person => k_is); (case k_d_check_person => k_is))
    case d_ring_of => (refine' Rc.mkDef KX G ?a_d_ring_of ?l_d_ring_of ?c_d_ring_of ?k_d_ring_of; (case a_d_ring_of => k_is); (case l_d_ring_of => k_is); (case c_d_ring_of => k_is); (case k_d_ring_of => k_is))
    case d_rings_by => (refine' Rc.mkDef KX G ?a_d_rings_by ?l_d_rings_by ?c_d_rings_by ?k_d_rings_by; (case a_d_rings_by => k_is); (case l_d_rings_by => k_is); (case c_d_rings_by => k_is); (case k_d_rings_by => k_is))
    case d_all_rings => (refine' Rc.mkDef KX G ?a_d_all_rings ?l_d_all_rings ?c_d_all_rings ?k_d_all_rings; (case a_d_all_rings => k_is); (case l_d_all_rings => k_is); (case c_d_all_rings => k_is); (case k_d_all_rings => k_is))
    case d_l_pot => (refine' Rc.mkDef KX G ?a_d_l_pot ?l_d_l_pot ?c_d_l_pot ?k_d_l_pot; (case a_d_l_pot => k_is); (case l_d_l_pot => k_is); (case c_d_l_pot => k_is); (case k_d_l_pot => k_is))
    case d_l_take => (refine' Rc.mkDef KX G ?a_d_l_take ?l_d_l_take ?c_d_l_take ?k_d_l_take; (case a_d_l_take => k_is); (case l_d_l_take => k_is); (case c_d_l_take => k_is); (case k_d_l_take => k_is))
    case d_l_name => (refine' Rc.mkDef KX G ?a_d_l_name ?l_d_l_name ?c_d_l_name ?k_d_l_name; (case a_d_l_name => k_is); (case l_d_l_name => k_is); (case c_d_l_name => k_is); (case k_d_l_name => k_is))
    case d_l_names => (refine' Rc.mkDef KX G ?a_d_l_names ?l_d_l_names ?c_d_l_names ?k_d_l_names; (case a_d_l_names => k_is); (case l_d_l_names => k_is); (case c_d_l_names => k_is); (case k_d_l_names => k_is))
    case d_l_among => (refine' Rc.mkDef KX G ?a_d_l_among ?l_d_l_among ?c_d_l_among ?k_d_l_among; (case a_d_l_among => k_is); (case l_d_l_among => k_is); (case c_d_l_among => k_is); (case k_d_l_among => k_is))
    case d_l_amount => (refine' Rc.mkDef KX G ?a_d_l_amount ?l_d_l_amount ?c_d_l_amount ?k_d_l_amount; (case a_d_l_amount => k_is); (case l_d_l_amount => k_is); (case c_d_l_amount => k_is); (case k_d_l_amount => k_is))
    case d_l_model => (refine' Rc.mkDef KX G ?a_d_l_model ?l_d_l_model ?c_d_l_model ?k_d_l_model; (case a_d_l_model => k_is); (case l_d_l_model => k_is); (case c_d_l_model => k_is); (case k_d_l_model => k_is))
    case d_l_parted => (refine' Rc.mkDef KX G ?a_d_l_parted ?l_d_l_parted ?c_d_l_parted ?k_d_l_parted; (case a_d_l_parted => k_is); (case l_d_l_parted => k_is); (case c_d_l_parted => k_is); (case k_d_l_parted => k_is))
    case d_l_left => (refine' Rc.mkDef KX G ?a_d_l_left ?l_d_l_left ?c_d_l_left ?k_d_l_left; (case a_d_l_left => k_is); (case l_d_l_left => k_is); (case c_d_l_left => k_is); (case k_d_l_left => k_is))
    case d_l_cash => (refine' Rc.mkDef KX G ?a_d_l_cash ?l_d_l_cash ?c_d_l_cash ?k_d_l_cash; (case a_d_l_cash => k_is); (case l_d_l_cash => k_is); (case c_d_l_cash => k_is); (case k_d_l_cash => k_is))
    case d_l_noted => (refine' Rc.mkDef KX G ?a_d_l_noted ?l_d_l_noted ?c_d_l_noted ?k_d_l_noted; (case a_d_l_noted => k_is); (case l_d_l_noted => k_is); (case c_d_l_noted => k_is); (case k_d_l_noted => k_is))
    case d_l_leads => (refine' Rc.mkDef KX G ?a_d_l_leads ?l_d_l_leads ?c_d_l_leads ?k_d_l_leads; (case a_d_l_leads => k_is); (case l_d_l_leads => k_is); (case c_d_l_leads => k_is); (case k_d_l_leads => k_is))
    case d_l_comes_back => (refine' Rc.mkDef KX G ?a_d_l_comes_back ?l_d_l_comes_back ?c_d_l_comes_back ?k_d_l_comes_back; (case a_d_l_comes_back => k_is); (case l_d_l_comes_back => k_is); (case c_d_l_comes_back => k_is); (case k_d_l_comes_back => k_is))
    case d_l_due_right => (refine' Rc.mkDef KX G ?a_d_l_due_right ?l_d_l_due_right ?c_d_l_due_right ?k_d_l_due_right; (case a_d_l_due_right => k_is); (case l_d_l_due_right => k_is); (case c_d_l_due_right => k_is); (case k_d_l_due_right => k_is))
    case d_l_own => (refine' Rc.mkDef KX G ?a_d_l_own ?l_d_l_own ?c_d_l_own ?k_d_l_own; (case a_d_l_own => k_is); (case l_d_l_own => k_is); (case c_d_l_own => k_is); (case k_d_l_own => k_is))
    case d_l_right => (refine' Rc.mkDef KX G ?a_d_l_right ?l_d_l_right ?c_d_l_right ?k_d_l_right; (case a_d_l_right => k_is); (case l_d_l_right => k_is); (case c_d_l_right => k_is); (case k_d_l_right => k_is))
    case d_law => (refine' Rc.mkDef KX G ?a_d_law ?l_d_law ?c_d_law ?k_d_law; (case a_d_law => k_is); (case l_d_law => k_is); (case c_d_law => k_is); (case k_d_law => k_is))
    case m_init => (refine' Rc.mkMeth ?a_m_init ?i_m_init ?l_m_init ?c_m_init ?k_m_init; (case a_m_init => k_is); (case i_m_init => k_is); (case l_m_init => k_is); (case c_m_init => k_is); (case k_m_init => k_is))
    case m_with_these => (refine' Rc.mkMeth ?a_m_with_these ?i_m_with_these ?l_m_with_these ?c_m_with_these ?k_m_with_these; (case a_m_with_these => k_is); (case i_m_with_these => k_is); (case l_m_with_these => k_is); (case c_m_with_these => k_is); (case k_m_with_these => k_is))
    case m_has => (refine' Rc.mkMeth ?a_m_has ?i_m_has ?l_m_has ?c_m_has ?k_m_has; (case a_m_has => k_is); (case i_m_has => k_is); (case l_m_has => k_is); (case c_m_has => k_is); (case k_m_has => k_is))
    case m_place_of => (refine' Rc.mkMeth ?a_m_place_of ?i_m_place_of ?l_m_place_of ?c_m_place_of ?k_m_place_of; (case a_m_place_of => k_is); (case i_m_place_of => k_is); (case l_m_place_of => k_is); (case c_m_place_of => k_is); (case k_m_place_of => k_is))
    case m_persons => (refine' Rc.mkMeth ?a_m_persons ?i_m_persons ?l_m_persons ?c_m_persons ?k_m_persons; (case a_m_persons => k_is); (case i_m_persons => k_is); (case l_m_persons => k_is); (case c_m_persons => k_is); (case k_m_persons => k_is))
    case m_given => (refine' Rc.mkMeth ?a_m_given ?i_m_given ?l_m_given ?c_m_given ?k_m_given; (case a_m_given => k_is); (case i_m_given => k_is); (case l_m_given => k_is); (case c_m_given => k_is); (case k_m_given => k_is))
    case m_fallen => (refine' Rc.mkMeth ?a_m_fallen ?i_m_fallen ?l_m_fallen ?c_m_fallen ?k_m_fallen; (case a_m_fallen => k_is); (case i_m_fallen => k_is); (case l_m_fallen => k_is); (case c_m_fallen => k_is); (case k_m_fallen => k_is))
    case m_notes => (refine' Rc.mkMeth ?a_m_notes ?i_m_notes ?l_m_notes ?c_m_notes ?k_m_notes; (case a_m_notes => k_is); (case i_m_notes => k_is); (case l_m_notes => k_is); (case c_m_notes => k_is); (case k_m_notes => k_is))
    case m_pile => (refine' Rc.mkMeth ?a_m_pile ?i_m_pile ?l_m_pile ?c_m_pile ?k_m_pile; (case a_m_pile => k_is); (case i_m_pile => k_is); (case l_m_pile => k_is); (case c_m_pile => k_is); (case k_m_pile => k_is))
    case m_fallen_to => (refine' Rc.mkMeth ?a_m_fallen_to ?i_m_fallen_to ?l_m_fallen_to ?c_m_fallen_to ?k_m_fallen_to; (case a_m_fallen_to => k_is); (case i_m_fallen_to => k_is); (case l_m_fallen_to => k_is); (case c_m_fallen_to => k_is); (case k_m_fallen_to => k_is))
    case m_cash => (refine' Rc.mkMeth ?a_m_cash ?i_m_cash ?l_m_cash ?c_m_cash ?k_m_cash; (case a_m_cash => k_is); (case i_m_cash => k_is); (case l_m_cash => k_is); (case c_m_cash => k_is); (case k_m_cash => k_is))
    case m_put => (refine' Rc.mkMeth ?a_m_put ?i_m_put ?l_m_put ?c_m_put ?k_m_put; (case a_m_put => k_is); (case i_m_put => k_is); (case l_m_put => k_is); (case c_m_put => k_is); (case k_m_put => k_is))
    case m_give => (refine' Rc.mkMeth ?a_m_give ?i_m_give ?l_m_give ?c_m_give ?k_m_give; (case a_m_give => k_is); (case i_m_give => k_is); (case l_m_give => k_is); (case c_m_give => k_is); (case k_m_give => k_is))
    case m_whole_of => (refine' Rc.mkMeth ?a_m_whole_of ?i_m_whole_of ?l_m_whole_of ?c_m_whole_of ?k_m_whole_of; (case a_m_whole_of => k_is); (case i_m_whole_of => k_is); (case l_m_whole_of => k_is); (case c_m_whole_of => k_is); (case k_m_whole_of => k_is))
    case m_may_fall => (refine' Rc.mkMeth ?a_m_may_fall ?i_m_may_fall ?l_m_may_fall ?c_m_may_fall ?k_m_may_fall; (case a_m_may_fall => k_is); (case i_m_may_fall => k_is); (case l_m_may_fall => k_is); (case c_m_may_fall => k_is); (case k_m_may_fall => k_is))
    case m_let_fall => (refine' Rc.mkMeth ?a_m_let_fall ?i_m_let_fall ?l_m_let_fall ?c_m_let_fall ?k_m_let_fall; (case a_m_let_fall => k_is); (case i_m_let_fall => k_is); (case l_m_let_fall => k_is); (case c_m_let_fall => k_is); (case k_m_let_fall => k_is))
    case gS => (refine' PySem.W.mg_none_of KX G ?gsh; (case gsh => k_is))

