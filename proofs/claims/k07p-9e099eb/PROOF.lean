import PyProof.Rows.All
import Wide.All
import OpenK.AllK
import Wide.FinOn
import PyProof.ReprRoads
import HandS.Base
import HandS.Call
import HandS.List
import HandS.Dict
import HandS.Ends
import HandS.Words
import HandS.Exc
import HandS.ExcOwn
import HandS.TryOnly
import HandS.TryMany
import HandS.Defaults
import PyProof.StrLawsRepr
import HandS.Wide
import HandS.Comp
import HandS.Iter
import HandS.Text
import HandS.More
import HandS.Style
import HandS.StrMore
import HandS.IsInst
import HandS.Replace
import HandS.RaiseMore
import HandS.WordsList
import HandS.WordsDict
import HandS.WordsExc
import HandS.Walk
import HandS.Codes
import PyProof.Rows.StrFin3
import HandS.ExcValue
import KE.KExcIs
import HandS.FStr
import HandS.Zip0
import HandS.Zip
import HandS.Star
import HandS.SortKw
import KE.KDictPairs
import KE.KDictDisplayH
import HandS.SetTxt0
import HandS.Set
import HandS.Strs
import HandS.MakeKwOnly
import HandS.Lambda
import KE.KTryMore
import KE.KNest
import HandS.Small
import HandS.HotCalls
import PySem.Challenge.RW_formatrepair_k07_values_that_are_no_tree
set_option Elab.async false
set_option linter.all false
set_option maxRecDepth 100000
set_option maxHeartbeats 4000000
namespace Gd
open PySem PySem.Spec PyProof.Rows L2
/-- no repr is under way -/
def Clean (A : Around) : Prop := A.guards = some []
/-- a contract that holds where no repr is under way -/
structure FnG (P : Program) (w : World) (K : PySem.W.Frag) (mg : Str → Option Value) (base : Heap) (CX : CXT) (k : Nat) (f : Addr) (fd : FuncData) (ps : List Str) (sp : Sp) : Prop where
  len : ∀ vs H Q E, sp vs H Q E → vs.length = ps.length
  run : ∀ (A : Around) (outer : List Env) (s : Shared) (H : Hp) (args : Args) (us : List Value) (vs : List V) (Q : VK) (E : XK), Clean A → Room k A →
    Env0 P w K mg base A outer s H → BindsTo s fd args (ps.zip us) → Vals vs us → sp vs H Q E →
    codeAny (model P w) A (.call (.ref f) args) (CR CX outer P w H s Q E) s
section
variable {P : Program} {w : World} {K : PySem.W.Frag} {mg : Str → Option Value} {base : Heap} {CX : CXT} {k j : Nat} {f : Addr} {fd : FuncData} {ps : List Str} {sp : Sp}
theorem FnG.of (F : FnOk P w K mg base CX k f fd ps sp) : FnG P w K mg base CX k f fd ps sp :=
  ⟨F.len, fun A outer s H args us vs Q E _ hr e0 hb r h => F.run A outer s H args us vs Q E hr e0 hb r h⟩
theorem FnG.mono (F : FnG P w K mg base CX j f fd ps sp) (h : j ≤ k) : FnG P w K mg base CX k f fd ps sp :=
  ⟨F.len, fun A outer s H args us vs Q E hc hr e0 hb r q => F.run A outer s H args us vs Q E hc (hr.mono h) e0 hb r q⟩
/-- a def of the text keeps its contract: its body as rules, and their reading -/
theorem okG {CX : CXT} {x qual : Str} {st : Stmt} {N : List Str} (F : Fun K x qual st f fd) (S : FnScope N ps (defScope st)) (len : ∀ vs H Q E, sp vs H Q E → vs.length = ps.length)
    (hbody : ∀ (cdv : Value) (A : Around) (outer : List Env) (s : Shared) (H : Hp) (vs : List V) (Q : VK) (E : XK), Clean A → Room k (A.deeper (envOfC qual (defScope st) s.heap.objs.size f cdv)) → sp vs H Q E →
      ∃ t, PSs (cxOf CX P w K mg base N qual (defScope st) f cdv A outer s H E) (defBody st) t ∧ t { nx := fun _ H' => Q .non H', rt := Q } (start N vs) H) : FnG P w K mg base CX (k + 1) f fd ps sp := by
  obtain ⟨oc, od, kV, doc, pm, an, cdv, ct, osl, efd, lk, hcd⟩ := F.ex
  subst efd
  refine ⟨len, fun A outer s H args us vs Q E hc hr e0 hb r hsp => ?_⟩
  have bk : ∀ b o, base.get? b = some o → s.heap.get? b = some o := fun b o e => (e0.bs b o e).1
  have KX : K.In s.heap := e0.mod.kin.keeps bk
  have hkind : ∀ y ∈ ps.zip us, (defScope st).names.lookup y.1 = some .local ∨ ((defScope st).names.lookup y.1 = some .cell ∧ ((cellsFrom (s.heap.objs.size + 1) (defScope st).names []).lookup y.1).isSome = true) := by
    rintro ⟨n, v⟩ hy
    exact (S.par n (List.of_mem_zip hy).1).imp id fun q => ⟨q, PySem.W.cellsFrom_some _ _ _ (.inl q)⟩
  refine codeAny_call_function hr.depth (KX _ _ lk) rfl S.co S.gen rfl (PySem.W.codeRec_of KX hcd) (hb _ _ _ _ (wpAny_newFunctionEnv_cells S.kind hkind ?_))
  intro env he s1 x
  subst he
  refine ⟨(e0.mod.nolimit.keeps bk).keeps x.toInCall.keep, codeAny_func ?_⟩
  obtain ⟨t, ht, hq⟩ := hbody cdv A outer s H vs Q E hc (hr.deeper _) hsp
  have I := inv_start (CX := CX) (E := E) S hr.hd e0 (len _ _ _ _ hsp) r x
  refine wpAny_mono (ht.run [] s1 (start N vs) H _ I hq) (fun fl s' hs => ?_) fun _ _ z => z
  match fl, hs with
  | .ret u, ⟨v, σ', H', J, rv, q⟩ => exact ⟨v, H', J.os, J.bare, J.base, J.hok, rv, q⟩
  | .next, ⟨σ', H', J, q⟩ => exact ⟨V.non, H', J.os, J.bare, J.base, J.hok, rfl, q⟩
  | .brk, ⟨_, _, _, q⟩ => exact q.elim
  | .cont, ⟨_, _, _, q⟩ => exact q.elim
end
section
variable {X : Cx} {CX : CXT} {k : Nat} {f : Addr} {fd : FuncData} {ps ks : List Str} {sp : Sp} {dvs : List V} {ds : List Value} {E : XK} {x : Str} {p pos : Pos} {e : Expr} {es : List Expr} {t tk : TA} {kws : List Keyword}
theorem runG {pins : List (Addr × Obj)} {σ : L2.St} {H : Hp} {s : Shared} {Q : VK} {us : List Value} {vs : List V} (F : FnG X.prog X.w X.K X.mg X.base CX k f fd ps sp) (hc : Clean X.A) (hr : Room k X.A)
    (hb : Binds X.K fd ps ds) (hd : Vals dvs ds) (hx : Passes CX X E) (I : Inv X pins σ H s) (r : Vals vs us) (h : sp (vs ++ dvs) H Q E) :
    wpAny (model X.prog X.w) X.A (call (.ref f) us) (EP X pins σ Q) X.xe s := by
  have r2 := r.append hd
  have hl : (us ++ ds).length = ps.length := r2.length ▸ F.len _ _ _ _ h
  refine wpAny_call (codeAny_mono (F.run X.A X.stack s H ⟨us, []⟩ (us ++ ds) (vs ++ dvs) Q E hc hr I.env0 (hb s us I.kIn hl) r2 h) ?_)
  intro r s' hq
  match r, hq with
  | .error e, hq => exact hx pins σ H s e s' I hq
  | .ok (.ret u), hq => exact I.after hq
  | .ok .next, hq => exact False.elim hq
  | .ok .brk, hq => exact False.elim hq
  | .ok .cont, hq => exact False.elim hq
theorem pe_callG (F : FnG X.prog X.w X.K X.mg X.base CX k f fd ps sp) (hc : Clean X.A) (hr : Room k X.A) (hg : Gl X x) (hm : X.mg x = some (.ref f)) (hk : PySem.W.keepIn X.K (.ref f) = true)
    (hb : Binds X.K fd ps ds) (hd : Vals dvs ds) (hx : Passes CX X E) (ha : PA X (e :: es) t) (hdb : (x == ("__debug__" : Str)) = false := by decide)
    (he : starEach (e :: es) X.env = (false, eval e X.env) :: starEach es X.env := by rfl) (hpl : (backTo pos (starEach es X.env)).any (·.1) = false := by rfl) :
    PE X (.Call (.Name x p) (e :: es) [] pos) (tCall sp dvs E t) := by
  refine ⟨fun pins s σ H Q I h => wpAny_Call_Name_kw (ld_glob I hg hm ?_ hdb)⟩
  exact PySem.W.callWith_K (h₀ := X.base) I.ok.mod.kin hk (thn (ha.run pos pins s σ H _ I h) fun us s1 ⟨vs, H1, I1, r, q⟩ => ⟨I1.kIn, runG F hc hr hb hd hx I1 r q⟩) he hpl
end

/-! the end of a law -/
section
variable {P : Program} {w : World} {K : PySem.W.Frag} {mg mb : Str → Option Value} {CX : CXT} {k : Nat} {fa a : Addr} {fd : FuncData} {x : Str} {sp : Sp} {s : Shared} {vs : List Value} {ns : List Int}
/-- the table of modules stands in the fixed part -/
abbrev SysIn (base : Heap) : Prop := ∃ o, base.get? sysModules = some o
abbrev scriptObj (vs : List Value) : Obj := { cls := .type "list", data := .seq vs.toArray }
abbrev Done (s : Shared) (r : Result) (s' : Shared) : Prop := r = .ok (.ret (.bool true)) ∧ OldK s.heap s'.heap ∧ s'.os = s.os ∧ AllBare s'.gens
/-- from a heap in which the script alone may be tracked -/
theorem law_core (KX : K.In s.heap) (hns : s.heap.Ns mainGlobals mg) (hb : s.heap.Ns builtinsNs mb) (hbb : ∀ x : Str, x ≠ "__name__" → mb x = bootBuiltins x) (hlim : s.heap.NoLimit) (hsy : ∃ mm, s.heap.Ns sysModules mm) (hg : s.gens = #[])
    (ha : s.heap.get? a = some (scriptObj vs)) (hr : Room k callerA)
    (F : ∀ base : Heap, K.In base → base.Ns mainGlobals mg → SysIn base → FnG P w K mg base CX k fa fd [x] sp) (hbind : ∀ (s : Shared) (u : Value), BindsTo s fd ⟨[u], []⟩ [(x, u)])
    (H : Hp) (hO : Only H) (hok : HOk P w H s.heap) (hA : ∀ b, H b ≠ none → b = a) (hK : H a ≠ none → K.lookup a = none)
    (hsp : sp [.ref a] H (fun v _ => v = .bl true) fun _ _ _ => False) (hCX : ∀ e s', CX [] H s (fun _ _ _ => False) e s' → False) :
    codeAny (model P w) callerA (.call (.ref fa) ⟨[.ref a], []⟩) (Done s) s := by
  have notA : ∀ {b : Addr}, b ≠ a → H b = none := fun {b} hb => Classical.byContradiction fun q => hb (hA b q)
  have nsA : ∀ {b : Addr} {m : Str → Option Value}, s.heap.Ns b m → (hidT s.heap H).Ns b m := by
    rintro b m ⟨o, es, ep, e, d, r⟩
    have hb : b ≠ a := by
      rintro rfl
      rw [ha] at e
      cases e
      exact nomatch (d : Data.seq vs.toArray _ = Data.dict es ep)
    exact ⟨o, es, ep, hidT_get e (notA hb), d, r⟩
  have inB : K.In (hidT s.heap H) := fun b o e => hidT_get (KX b o e) (Classical.byContradiction fun q => by
    have hb := hA b q
    subst hb
    rw [hK q] at e
    exact nomatch e)
  have md : Mod K mg (hidT s.heap H) := ⟨inB, nsA hns, ⟨mb, nsA hb, hbb⟩, hlim.imp fun _ h => ⟨nsA h.1, h.2⟩⟩
  have e0 : Env0 P w K mg (hidT s.heap H) callerA [] s H :=
    ⟨rfl, md, fun b o e => of_hidT e, Nat.le_of_eq (hidT_size _ _), trivial, fun _ hb => absurd hb List.not_mem_nil, hok, .of_eq hg⟩
  have R := (F _ inB (nsA hns) (let ⟨_, q⟩ := hsy; let ⟨o, _, _, e, _⟩ := nsA q; ⟨o, e⟩)).run callerA [] s H ⟨[.ref a], []⟩ [.ref a] [.ref a] _ _ rfl hr e0 (hbind s (.ref a)) (.cons rfl .nil) hsp
  refine codeAny_mono R fun r s' h => ?_
  match r, h with
  | .error e, h => exact (hCX e s' h).elim
  | .ok .next, h => exact False.elim h
  | .ok .brk, h => exact False.elim h
  | .ok .cont, h => exact False.elim h
  | .ok (.ret u), ⟨v, H', os, bare, un, hok', r', q⟩ =>
    have q' : v = .bl true := q
    subst q'
    cases (show u = Value.bool true from r')
    refine ⟨rfl, OldK.of_keep fun b o e => ?_, os, bare⟩
    rcases hO b with z | ⟨ob, xs, z⟩
    · exact un.keep b o e z List.not_mem_nil (by simp)
    · have e1 := (hok b _ z).1
      have e2 := (hok' b _ (un.frzs b ob _ z)).1
      rw [e] at e1
      cases e1
      exact e2
theorem law_callG (KX : K.In s.heap) (hns : s.heap.Ns mainGlobals mg) (hb : s.heap.Ns builtinsNs mb) (hbb : ∀ x : Str, x ≠ "__name__" → mb x = bootBuiltins x) (hlim : s.heap.NoLimit) (hsy : ∃ mm, s.heap.Ns sysModules mm) (hg : s.gens = #[])
    (ha : s.heap.get? a = some (scriptObj vs)) (hi : IntsAre vs ns) (hl : ns.length ≤ sizeLine) (hr : Room k callerA)
    (F : ∀ base : Heap, K.In base → base.Ns mainGlobals mg → SysIn base → FnG P w K mg base CX k fa fd [x] sp) (hbind : ∀ (s : Shared) (u : Value), BindsTo s fd ⟨[u], []⟩ [(x, u)])
    (hsp : ∀ H : Hp, Only H → SqL K H a (ns.map V.int) → sp [.ref a] H (fun v _ => v = .bl true) fun _ _ _ => False) (hCX : ∀ H e s', CX [] H s (fun _ _ _ => False) e s' → False) :
    codeAny (model P w) callerA (.call (.ref fa) ⟨[.ref a], []⟩) (Done s) s := by
  have rv := vals_ints hi
  have lenV := hi.length
  cases hk : K.lookup a with
  | some o =>
    have e := KX a o hk
    rw [ha] at e
    cases e
    refine law_core KX hns hb hbb hlim hsy hg ha hr F hbind (fun _ => none) (fun _ => .inl rfl) (fun b u z => nomatch (z : (none : Option HO) = some u)) (fun _ z => absurd rfl z) (fun z => absurd rfl z) ?_ (hCX _)
    exact hsp _ (fun _ => .inl rfl) (.inr ⟨_, vs.toArray, _, hk, rfl, rfl, rfl, by rw [List.size_toArray, lenV]; exact hl, by simpa using rv⟩)
  | none =>
    have one : ∀ {b : Addr} {u : HO}, (if b = a then some (HO.frz (scriptObj vs) (.lst (ns.map V.int))) else none) = some u → b = a ∧ u = .frz (scriptObj vs) (.lst (ns.map V.int)) := by
      intro b u z
      by_cases hb : b = a
      · rw [if_pos hb] at z
        exact ⟨hb, (Option.some.inj z).symm⟩
      · rw [if_neg hb] at z
        exact nomatch z
    have only : Only fun b => if b = a then some (HO.frz (scriptObj vs) (.lst (ns.map V.int))) else none := fun b => by
      by_cases hb : b = a
      · exact .inr ⟨_, _, if_pos hb⟩
      · exact .inl (if_neg hb)
    refine law_core KX hns hb hbb hlim hsy hg ha hr F hbind _ only (fun b u z => ?_) (fun b z => ?_) (fun _ => hk) (hsp _ only (.inl (.inr ⟨scriptObj vs, if_pos rfl⟩))) (hCX _)
    · obtain ⟨rfl, rfl⟩ := one z
      exact ⟨ha, by rw [List.length_map]; exact hl, vs, _, rv, ha⟩
    · cases q : (if b = a then some (HO.frz (scriptObj vs) (.lst (ns.map V.int))) else none) with
      | none => exact absurd q z
      | some u => exact (one q).1
theorem walkG {l : PySem.W.OpenLaw} {n k : Nat} {q : Program} {loose : List Str} {XP : (Str → Option Value) → Heap → Prop} {YP : World → Heap → Prop} {d : DefRec} {K : Params → PySem.W.Frag} {CX : World → CXT} {sp : World → Sp} {x : Str}
    (hn : l.most = some n) (hn2 : n ≤ sizeLine) (hdf : d.params.defaults = []) (hr : Room k callerA) (himp : importsNone q = true) (hY : ∀ (w : World) (h : Heap), YP w h → (K w.params).In h)
    (F : ∀ (w : World) (mg : Str → Option Value) (fa : Addr) (h : Heap), (K w.params).In h → h.Ns mainGlobals mg → mg d.name = some (.ref fa) →
      ∃ fd : FuncData, (∀ (s : Shared) (u : Value), BindsTo s fd ⟨[u], []⟩ [(x, u)]) ∧
        ∀ base : Heap, (K w.params).In base → base.Ns mainGlobals mg → SysIn base → FnG l.prog w (K w.params) mg base (CX w) k fa fd [x] (sp w))
    (hsp : ∀ (w : World) (H : Hp) (a : Addr) (ns : List Int), ns.length ≤ n → Only H → SqL (K w.params) H a (ns.map V.int) → sp w [.ref a] H (fun v _ => v = .bl true) fun _ _ _ => False)
    (hCX : ∀ (w : World) (H : Hp) (s : Shared) (e : Value) (s' : Shared), CX w [] H s (fun _ _ _ => False) e s' → False) :
    PySem.W.WalkO q loose XP YP l.row.toRowW d [] (fun f vs => PySem.call f vs) := by
  refine Att.attach_call hn hdf fun w s₀ s₁ mg mb fa o pm cd doc a vs ns G Y ho hd hcd hmg hobj hints hlen hg => ?_
  obtain ⟨fd, hb, hF⟩ := F w mg fa _ (hY w _ Y) G.T.g hmg
  exact law_callG (hY w _ Y) G.T.g G.T.b G.T.builtins G.T.nolimit (let ⟨mm, q, _⟩ := (G.T.seer himp).mods; ⟨mm, q⟩) hg hobj hints (Nat.le_trans hlen hn2) hr hF hb (fun H hO hS => hsp w H a ns hlen hO hS) fun H e s' => hCX w H s₁ e s'
end
end Gd

namespace PySem
namespace EzValue
open PySem.W PySem.Calls PyProof.Rows PySem.HandSPX
/-! ### the text of __init__ -/
def iA (p1 p2 : Pos) : Arguments := { posonlyargs := [], args := [{ arg := "self", annotation := none, pos := p1 }, { arg := "value", annotation := none, pos := p2 }], vararg := none, kwonlyargs := [], kw_defaults := [], kwarg := none, defaults := [] }
def iB (q1 q2 q3 q4 : Pos) : List Stmt := [.Assign [.Attribute (.Name "self" q1) "value" q2] (.Name "value" q3) q4]
def iS : Scope := { kind := .function, names := [(PySem.Str.ofString "self", .local), (PySem.Str.ofString "value", .local)], isGenerator := false, isCoroutine := false, more := [] }
/-- what the written part says of Low, at C, and of its __init__, at fI -/
structure LowTxt (K : Frag) (mg : Str → Option Value) (nm : Str) (qn : String) (C fI : Addr) : Prop where
  gC : mg nm = some (.ref C)
  cls : ∃ nmC q N bs bm sn sub ab col dd k0 k1 k2 k3 k5, K.lookup C = some (excClassObj nmC q C N bs bm true sn sub ab col dd k0 k1 k2 k3 k5 "ValueError.__new__") ∧ refsVE bm = true
  sa : findIn K (.ref C) "__setattr__" = some (some (.builtin "object.__setattr__"))
  ga : findIn K (.ref C) "__getattribute__" = some (some (.builtin "BaseException.__getattribute__"))
  gg : findIn K (.ref C) "__getattr__" = some none
  noN : findIn K (.ref C) "value" = some none
  iC : findIn K (.ref C) "__init__" = some (some (.ref fI))
  tC : typeIn K (.ref fI) = some (.type "function")
  kC : keepIn K (.ref C) = true
  exC : subIn K (.ref C) (.type "BaseException") = some true
  tyC : typeIn K (.ref C) = some (.type "type")
  hdC : hasDictIn K C = true
  te : exmOne K (.ref C) (.ref C) = some true
  fn : ∃ (oc : Value) (od : Option Addr) (doc pm : Value) (an : Option Addr) (cdv ct : Value) (osl : Array (Option Value)) (p1 p2 q1 q2 q3 q4 : Pos),
    K.lookup fI = some ⟨oc, od, .func (fnOf "__init__" qn (iA p1 p2) (iB q1 q2 q3 q4) iS .none .none doc pm an cdv ct), osl⟩ ∧ codeIn K cdv qn = true
theorem one_size (v : Value) : [v].length ≤ sizeLine := by
  rw [sizeLine_eq]
  exact (by decide : 1 ≤ 16777216)
theorem kept_but {K : Frag} {h h' : Heap} {x : Addr} (X : K.In h) (hx : K.lookup x = none) (k : ∀ b o, b ≠ x → h.get? b = some o → h'.get? b = some o) : K.In h' := fun a o e =>
  k a o (fun z => by rw [z, hx] at e; cases e) (X a o e)
theorem ldC {M : Model} {s : Shared} {name : Str} {scope : Scope} {L a : Addr} {cd : Value} {m : Str → Option Value} {x : Str} {pos : Pos} {v : Value} {Q : Value → Shared → Prop} {A : Around} {E : Value → Shared → Prop} (hn : s.heap.Ns L m) (hv : m x = some v) (h : Q v s)
    (hk : scope.kind = .function := by rfl) (hl : (envOfC name scope L a cd).kindOf x = some .local := by rfl) (hd : (x == ("__debug__" : Str)) = false := by decide) :
    wpAny M A (eval (.Name x pos) (envOfC name scope L a cd)) Q E s := wpAny_Name (wpAny_loadName_local hk hl hn hv h) hd
/-- what __init__ leaves of a fresh exception at x -/
structure InitEnd (h h' : Heap) (x C dx t1 : Addr) (v : Value) : Prop where
  keep : ∀ b o, b ≠ x → h.get? b = some o → h'.get? b = some o
  obj : h'.get? x = some { cls := .ref C, dict := some dx, data := .fields #[.ref t1, .none, .none, .none, .bool false, .none] }
  dbig : h.objs.size ≤ dx
  dne : dx ≠ x
  ns : h'.Ns1 dx (fun y => if y = "value" then some v else none)
/-- a made Low -/
structure OwnMade (h h' : Heap) (e C d : Addr) (v : Value) : Prop where
  keep : ∀ b o, h.get? b = some o → h'.get? b = some o
  new : h.objs.size ≤ e
  obj : ∃ oe vs, h'.get? e = some oe ∧ oe.cls = .ref C ∧ oe.dict = some d ∧ oe.data = .fields vs ∧ vs[1]? = some .none
  dbig : h.objs.size ≤ d
  dne : d ≠ e
  ns : h'.Ns1 d (fun y => if y = "value" then some v else none)
section
variable {prog : Program} {w : World} {A : Around} {E : Value → Shared → Prop} {R : Result → Shared → Prop} {s : Shared} {K : Frag} {mg : Str → Option Value} {nm : Str} {qn : String} {C fI : Addr}
theorem low_init (T : LowTxt K mg nm qn C fI) {x t0 : Addr} {v : Value} (X : K.In s.heap) (hlim : s.heap.NoLimit) (hx : s.heap.get? x = some (excO C t0)) (hnx : K.lookup x = none) (hroom : A.depth < recursionLimit)
    (hq : ∀ h' tk dx, InitEnd s.heap h' x C dx t0 v → R (.ok (.ret .none)) { s with heap := h', toks := tk }) :
    codeAny (model prog w) A (.call (.ref fI) ⟨[.ref x, v], []⟩) R s := by
  obtain ⟨oc, od, doc, pm, an, cdv, ct, osl, p1, p2, q1, q2, q3, q4, ho, hcd⟩ := T.fn
  obtain ⟨nmC, q, N, bs, bm, sn, sub, ab, col, dd, k0, k1, k2, k3, k5, hC, hbm⟩ := T.cls
  have hcl : clsIn K C = some { name := nmC, bases := bs, mro := .ref C :: bm, ns := N, qualname := q, hasDict := true, slotNames := sn, subclasses := sub, abstract := ab, collection := col, hasDel := false } := by unfold clsIn; rw [hC] <;> rfl
  refine Att.call_fn (binds := [("self", .ref x), ("value", v)]) X hlim ho hcd hroom (BindsTo.of_eq (by first | rfl | with_unfolding_all rfl)) (by first | rfl | decide | with_unfolding_all rfl) (fun s₁ IC => ?_) rfl rfl rfl
  obtain ⟨h₁, tk₁, rfl⟩ := IC.toInCall.same
  have k : ∀ b o, s.heap.get? b = some o → h₁.get? b = some o := IC.toInCall.keep
  have hn := IC.toInCall.ns
  have hxL : s.heap.objs.size ≠ x := Nat.ne_of_gt (Heap.lt_size hx)
  have X₁ : K.In h₁ := X.keeps k
  have hx₁ := k _ _ hx
  -- self.by = by
  show wpAny _ _ (execs _ _) _ _ _
  refine wpAny_execs_cons (plainObj_wpAny_Assign_Attribute ?_)
  refine ldC (v := v) hn (by first | rfl | with_unfolding_all rfl | kernel_rfl) (ldC (v := .ref x) hn (by first | rfl | with_unfolding_all rfl | kernel_rfl) ?_)
  refine set_plain X₁ (ox := excO C t0) (od := none) ⟨hx₁, rfl, rfl, trivial⟩ T.sa ?_
  refine exc_osa X₁ hx₁ hcl (show refsVE (.ref C :: bm) = true from hbm) rfl T.noN (fun h₃ tk₃ dx k₃ dn dne hx₃ hn₃ => ?_)
  show wpAny _ _ (execs _ _) _ _ _
  have z : s.heap.objs.size < h₁.objs.size := hn.lt
  exact wpAny_execs_nil (hq h₃ tk₃ dx ⟨fun b o hb e => k₃ b o hb (k b o e), hx₃, Nat.le_of_lt (Nat.lt_of_lt_of_le z dn), dne, hn₃⟩)
theorem low_made (T : LowTxt K mg nm qn C fI) {v : Value} (X : K.In s.heap) (hlim : s.heap.NoLimit) (hroom : A.depth + 1 < recursionLimit)
    (hq : ∀ h' tk e d, OwnMade s.heap h' e C d v → R (.ok (.ret (.ref e))) { s with heap := h', toks := tk }) :
    codeAny (model prog w) A (.call (.ref C) ⟨[v], []⟩) R s := by
  obtain ⟨nmC, q, N, bs, bm, sn, sub, ab, col, dd, k0, k1, k2, k3, k5, hC, hbm⟩ := T.cls
  obtain ⟨hp, g, dr, tk, os⟩ := s
  have k : ∀ b o, hp.get? b = some o → ((hp.push (kdv_tup [v])).push (excO C hp.objs.size)).get? b = some o := fun b o e => Heap.get?_push_of_some _ (Heap.get?_push_of_some _ e)
  have hget : ((hp.push (kdv_tup [v])).push (excO C hp.objs.size)).get? (hp.objs.size + 1) = some (excO C hp.objs.size) := by heap_get
  have hnx : K.lookup (hp.objs.size + 1) = none := by
    cases e : K.lookup (hp.objs.size + 1) with
    | none => rfl
    | some o =>
      have z : hp.get? (hp.objs.size + 1) = some o := X _ _ e
      exact absurd (Nat.lt_of_succ_lt (Heap.lt_size z)) (Nat.lt_irrefl _)
  refine call_own F.excBase_ValueError (fun X => refsVE_contains X bm hbm) (X _ _ hC) (looks_findIn X T.iC) (fun self => bind_fn X self T.tC) (one_size v) ?_
  refine low_init (s := ⟨(hp.push (kdv_tup [v])).push (excO C hp.objs.size), g, dr, tk, os⟩) T (X.keeps k) (hlim.keeps k) hget hnx ?_ fun h' tk' dx ⟨k', hx, dn, dne, hns⟩ => ?_
  · show A.depth + 1 < recursionLimit
    exact hroom
  · have old : ∀ b o, hp.get? b = some o → h'.get? b = some o := fun b o e => k' b o (Nat.ne_of_lt (Nat.lt_succ_of_lt (Heap.lt_size e))) (k b o e)
    have z : hp.objs.size + 1 + 1 ≤ dx := by
      first
        | (simpa only [Heap.size_push] using dn)
        | exact dn
        | (have q := dn; rw [Heap.size_push, Heap.size_push] at q; exact q)
    exact ⟨rfl, hq h' tk' (hp.objs.size + 1) dx ⟨old, Nat.le_succ _, ⟨_, _, hx, rfl, rfl, rfl, rfl⟩, Nat.le_trans (Nat.le_trans (Nat.le_succ _) (Nat.le_succ _)) z, dne, hns⟩⟩
end
end EzValue
end PySem
namespace L2
open PySem PySem.Spec PyProof.Rows
theorem relO_value {v : V} {v' : Value} (r : RelV v v') (f : Str) : RelO (List.lookup f [(("value" : Str), v)]) (if f = "value" then some v' else none) := by
  by_cases hw : f = "value"
  · subst hw
    rw [if_pos rfl]
    have q : List.lookup ("value" : Str) [(("value" : Str), v)] = some v := by simp [List.lookup]
    rw [q]
    exact r
  · rw [if_neg hw]
    have qw : (f == ("value" : Str)) = false := by simpa using hw
    have q2 : List.lookup f [(("value" : Str), v)] = none := by simp [List.lookup, qw]
    rw [q2]
    trivial
section
variable {X : Cx} {nm : Str} {qn : String} {C fI : Addr}
/-- Low(e) -/
def tMk_value (C : Addr) (ta : TA) : L2.St → Hp → XK → Prop := fun σ H Q => ta σ H fun vs H1 => ∃ v, vs = [v] ∧ ∀ d, H1 d = none → Q (.ref C) (some d) (upd H1 d (.xd [(("value" : Str), v)]))
theorem pmk_value {a : Expr} {ta : TA} {p pos : Pos} {k : Nat} (T : PySem.EzValue.LowTxt X.K X.mg nm qn C fI) (hr : Room k X.A) (ha : PA X [a] ta) (hg : Gl X nm := by rfl) (hdb : (nm == ("__debug__" : Str)) = false := by decide)
    (he : starEach (a :: []) X.env = (false, eval a X.env) :: starEach [] X.env := by rfl) (hpl : (backTo pos (starEach [] X.env)).any (·.1) = false := by rfl) :
    PMk X (.Call (.Name nm p) [a] [] pos) (tMk_value C ta) := by
  intro pins s σ H Q I h
  refine wpAny_Call_Name_kw (ld_glob I hg T.gC ?_ hdb)
  refine PySem.W.callWith_K (h₀ := X.base) I.ok.mod.kin T.kC (thn (ha.run pos pins s σ H _ I h) fun us s1 hh => ?_) he hpl
  obtain ⟨vs, H1, I1, r1, v, ev, q1⟩ := hh
  subst ev
  refine ⟨I1.kIn, ?_⟩
  cases r1 with
  | cons rv rn =>
    rename_i v' us'
    cases rn
    show wpAny _ _ (call (.ref C) [v']) _ _ _
    have hlim := I1.nolimit
    obtain ⟨hp, g, dr, tk, os⟩ := s1
    refine wpAny_call (PySem.EzValue.low_made T I1.kIn hlim (by have := hr.dp; omega) fun h' tk' e d M => ?_)
    show MkP X pins σ Q (.ref e) ⟨h', g, dr, tk', os⟩
    obtain ⟨oe, fv, hoe, hc, hd, hdat, h1⟩ := M.obj
    have hns := M.ns
    obtain ⟨G', g1, g2⟩ := restrict h' fun b => decide (b ≠ e)
    have gk : ∀ b, b ≠ e → G'.get? b = h'.get? b := fun b hb => g1 b (decide_eq_true hb)
    have ge : G'.get? e = none := g2 e (by simp)
    have old : ∀ b o, hp.get? b = some o → G'.get? b = some o := fun b o q => (gk b (Nat.ne_of_lt (Nat.lt_of_lt_of_le (Heap.lt_size q) M.new))).trans (M.keep b o q)
    have ob : ObjOk X.prog X.w (upd H1 d (.xd [(("value" : Str), v)])) G' d (.xd [(("value" : Str), v)]) :=
      ⟨_, hns.at (fun o q => (gk d M.dne).trans q), fun f => relO_value rv f⟩
    have J : Inv X pins σ (upd H1 d (.xd [(("value" : Str), v)])) ⟨G', g, dr, tk', os⟩ := I1.laid (t' := tk') old M.dbig ob
    refine ⟨e, oe, fv, ⟨G', g, dr, tk', os⟩, _, .ref C, some d, rfl, J, fun b o q => ?_, ge, hoe, ⟨hc, hd⟩, hdat, h1, ?_, rfl, I1.bare, raises_own T.exC T.tyC, q1 d (I1.hok.fresh M.dbig)⟩
    · by_cases hb : b = e
      · have q' : G'.get? b = some o := q
        rw [hb, ge] at q'; cases q'
      · exact (gk b hb).symm.trans q
    · rw [upd_ne (Ne.symm M.dne)]
      exact I1.hok.fresh M.new
/-- raise Low(e) -/
def tRaise_value (C : Addr) (W : WX) (ta : TA) : TS := fun _ σ H => tMk_value C ta σ H fun cls d H' => W cls d σ H'
theorem ps_raise_value {a : Expr} {ta : TA} {W : WX} {p pos pos2 : Pos} {k : Nat} (hc : X.calm = true) (T : PySem.EzValue.LowTxt X.K X.mg nm qn C fI) (hr : Room k X.A) (tk : Takes X W) (ha : PA X [a] ta) (hg : Gl X nm := by rfl) (hdb : (nm == ("__debug__" : Str)) = false := by decide)
    (he : starEach (a :: []) X.env = (false, eval a X.env) :: starEach [] X.env := by rfl) (hpl : (backTo pos (starEach [] X.env)).any (·.1) = false := by rfl) :
    PS X (.Raise (some (.Call (.Name nm p) [a] [] pos)) none pos2) (tRaise_value C W ta) := ps_raise hc tk (pmk_value T hr ha hg hdb he hpl)
/-- low.by, low the exception that the suite holds (at a; its class cls, its dict d) -/
def tBy_value (C : Addr) (a : Addr) (cls : Value) (d : Option Addr) (te : TE) : TE := fun σ H Q => te σ H fun x H1 => x = .ref a ∧ cls = .ref C ∧ ∃ (dd : Addr) (v : V), d = some dd ∧ H1 dd = some (.xd [(("value" : Str), v)]) ∧ Q v H1
theorem pe_by_value {a : Addr} {oe : Obj} {cls : Value} {d : Option Addr} {pn : List (Addr × Obj)} {e : Expr} {te : TE} {pos : Pos} (T : PySem.EzValue.LowTxt X.K X.mg nm qn C fI) (hz : Zc cls d oe) (hf : ∃ vs, oe.data = .fields vs) (he : PE (X.suite a ((a, oe) :: pn)) e te)
    (hb : attributeBase e "value" X.env (eval e X.env) = eval e X.env := by rfl) :
    PE (X.suite a ((a, oe) :: pn)) (.Attribute e "value" pos) (tBy_value C a cls d te) := by
  refine ⟨fun pins s σ H Q I h => ?_⟩
  refine attr_of hb (thn (he.run pins s σ H _ I h) fun u s1 hh => ?_)
  obtain ⟨x, H1, I1, rx, ex, ec, dd, v, ed, ea, q⟩ := hh
  subst ex
  obtain rfl : u = Value.ref a := rx
  subst ec
  subst ed
  obtain ⟨ha, _⟩ := I1.pin (a, oe) (List.mem_append_left _ List.mem_cons_self)
  obtain ⟨vs, hd⟩ := hf
  have hx : ObjOk X.prog X.w H1 s1.heap dd (.xd [(("value" : Str), v)]) := I1.hok dd _ ea
  obtain ⟨mA, hns, hr⟩ := hx
  obtain ⟨od, ho, hl⟩ := lookIn_ns hns
  have l : List.lookup ("value" : Str) [(("value" : Str), v)] = some v := by simp [List.lookup]
  obtain ⟨u, hu, ru⟩ := RelO.some_of (v := v) (o := mA "value") (by rw [← l]; exact hr "value")
  have J : PySem.W.InstAt s1.heap a oe C (some od) := ⟨ha, hz.1, by unfold PySem.W.notCls; rw [hd] <;> rfl, by rw [hz.2]; exact ho⟩
  exact HandSPX.exc_get I1.kIn J T.ga T.gg T.exC (PySem.W.findObj_own T.hdC T.noN rfl (by rw [hl, hu])) (handed_of ru) ⟨v, H1, I1.tok _, ru, q⟩
end
end L2


namespace Gd
open PySem PySem.Spec PyProof.Rows L2
/-- an except clause: its class, the slot of its name, what its suite reads -/
structure Cl where
  c : Value
  i : Option Nat
  ts : Addr → Value → Option Addr → TS
/-- behind the suite of a clause with a name the name is gone -/
def gone (D : Ends) (i : Nat) : Ends :=
  { nx := fun σ H => D.nx (σ.set i none) H, rt := D.rt, bk := fun σ H => D.bk (σ.set i none) H, ct := fun σ H => D.ct (σ.set i none) H }
/-- what the suite of a clause is asked -/
def atCl (q : Cl) (D : Ends) (a : Addr) (cls : Value) (d : Option Addr) (σ : L2.St) (H : Hp) : Prop :=
  match q.i with
  | some i => q.ts a cls d (gone D i) (σ.set i (some (.ref a))) H
  | none => q.ts a cls d D σ H
/-- what the clauses wish of an exception; where none of the told ones takes it, that can't be -/
def wCl (K : PySem.W.Frag) (D : Ends) : List Cl → WX
  | [] => fun _ _ _ _ => False
  | q :: r => fun cls d σ H => ∃ b, PySem.W.exmOne K cls q.c = some b ∧ (b = true → ∀ a, H a = none → atCl q D a cls d σ H) ∧ (b = false → wCl K D r cls d σ H)
inductive HdG (X : Cx) : List ExceptHandler → List Cl → Prop
  | stop (hds : List ExceptHandler) : HdG X hds []
  | as {x n : Str} {i : Nat} {c : Value} {ts : Addr → Value → Option Addr → TS} {b₀ : Stmt} {suite : List Stmt} {np ps : Pos} {hds : List ExceptHandler} {l : List Cl} (hi : X.N[i]? = some n) (hl : X.env.kindOf n = some .local) (hc : Names X x c)
      (hsu : ∀ (a : Addr) (oe : Obj) (cls : Value) (d : Option Addr) (pn : List (Addr × Obj)), Zc cls d oe → (∃ vs, oe.data = .fields vs) → PSs (X.suite a ((a, oe) :: pn)) (b₀ :: suite) (ts a cls d)) (r : HdG X hds l) :
      HdG X (.ExceptHandler (some (.Name x np)) (some n) (b₀ :: suite) ps :: hds) (⟨c, some i, ts⟩ :: l)
  | bare {x : Str} {c : Value} {ts : Addr → Value → Option Addr → TS} {b₀ : Stmt} {suite : List Stmt} {np ps : Pos} {hds : List ExceptHandler} {l : List Cl} (hc : Names X x c)
      (hsu : ∀ (a : Addr) (oe : Obj) (cls : Value) (d : Option Addr) (pn : List (Addr × Obj)), Zc cls d oe → (∃ vs, oe.data = .fields vs) → PSs (X.suite a ((a, oe) :: pn)) (b₀ :: suite) (ts a cls d)) (r : HdG X hds l) :
      HdG X (.ExceptHandler (some (.Name x np)) none (b₀ :: suite) ps :: hds) (⟨c, none, ts⟩ :: l)
section
variable {X : Cx} {body : List Stmt} {h₀ : ExceptHandler} {hds : List ExceptHandler} {l : List Cl} {pos : Pos} {tb : WX → TS}
theorem ps_tryG (hs : X.stack = X.env :: X.outer) (hf : X.env.frame = some X.env.locals) (hN : X.N.Nodup)
    (hb : ∀ (W : WX) (pn : List (Addr × Obj)) (xe : Value → Shared → Prop), Takes (X.tr pn xe) W → PassesOwn (model X.prog X.w) X.A X.env xe → PSs (X.tr pn xe) body (tb W))
    (hh : HdG X (h₀ :: hds) l) : PS X (.Try body (h₀ :: hds) [] [] pos) (fun D σ H => tb (wCl X.K D l) D σ H) := by
  refine ⟨fun pins s σ H D I h => ?_⟩
  have ok := I.ok
  have hfr : X.A.frames = some (X.env :: X.outer) := ok.frames.trans (congrArg some hs)
  refine wpAny_Try_except (wpAny_mono ((hb (wCl X.K D l) (X.pn ++ pins) _ ?caught PassesOwn.looking).run [] s σ H D (I.toTry _) h) ?norm fun _ _ z => z)
  case norm =>
    intro f s1 hsp
    match f, hsp with
    | .next, ⟨σ', H', J, q⟩ => exact wpAny_execs_nil ⟨σ', H', J.ofTry ok, q⟩
    | .brk, ⟨σ', H', J, q⟩ => exact ⟨σ', H', J.ofTry ok, q⟩
    | .cont, ⟨σ', H', J, q⟩ => exact ⟨σ', H', J.ofTry ok, q⟩
    | .ret u, ⟨v, σ', H', J, r, q⟩ => exact ⟨v, σ', H', J.ofTry ok, r, q⟩
  case caught =>
    intro u s' xx
    obtain ⟨a, B, sI, pins', σ', H', cls, d, rfl, J', nb, up, sky, na, os, ag, w⟩ := xx
    have J : Inv X pins σ' H' sI := J'.ofTry ok
    rw [show (X.tr (X.pn ++ pins) _).stack = X.env :: X.outer from hs] at sky
    show wpAny _ X.A (noteFrame (.ref a) X.env) _ _ _
    refine Sky.land Zc.steady hfr hf sky fun h3 fl3 up3 => ?_
    have J3 : Inv X pins σ' H' { s' with heap := h3 } := J.landed nb fl3.1 (up.trans up3) os ag
    obtain ⟨oe3, vs3, he3, hz3, hd3⟩ := fl3.there
    have nfr : a ∉ frs (X.env :: X.outer) := fun hm => by
      obtain ⟨_, o, e, hn⟩ := fl3.2.2.1.mem hm
      rw [he3] at e
      cases e
      exact hn _ hd3
    have nL : a ≠ X.env.locals := fun z => nfr (List.mem_filterMap.mpr ⟨X.env, List.mem_cons_self, by rw [hf, z]⟩)
    have nF : a ∉ X.fs := fun hm => nfr (let ⟨e, he, q⟩ := List.mem_filterMap.mp hm; List.mem_filterMap.mpr ⟨e, List.mem_cons_of_mem _ he, q⟩)
    have S3 := J3.suite he3 hd3 na nL nF
    have LT : PySem.W.Looks (model X.prog X.w) h3 (typeOf (.ref a)) cls := fun A Q E s k q => wpAny_typeOf_ref (k _ _ he3) (by rw [hz3.1]; exact q)
    have test : ∀ {x : Str} {c : Value} {np : Pos} {Q E : Value → Shared → Prop}, Names X x c → Q c { s' with heap := h3 } → wpAny (model X.prog X.w) (X.A.mark (some (.ref a))) (eval (.Name x np) X.env) Q E { s' with heap := h3 } := by
      rintro x c np Q E ⟨hg, hdb, hm | ⟨hm, hv, hn⟩⟩ q
      · exact ld_glob (X := X.suite a ((a, oe3) :: (X.pn ++ pins))) S3 hg hm q hdb
      · exact ld_blt (X := X.suite a ((a, oe3) :: (X.pn ++ pins))) S3 hg hm hv q hn hdb
    suffices go : ∀ {hs : List ExceptHandler} {cl : List Cl}, HdG X hs cl → wCl X.K D cl cls d σ' H' → wpAny (model X.prog X.w) X.A (handleBy (.ref a) X.env hs) (SP X pins D) X.xe { s' with heap := h3 } from go hh w
    intro hs' cl k
    induction k with
    | stop => exact fun w => w.elim
    | @as x n i c ts b₀ suite np ps hds l hi hl hc hsu r ih =>
      rintro ⟨b, hb1, yes, no⟩
      have hb2 := PySem.W.exm_one (M := model X.prog X.w) J3.kIn LT hb1
      refine wpAny_handleBy_cons (codeAny_handlers_test (test hc (hb2.here ?_))) (fun q => nomatch q)
      cases b with
      | false => exact ih (no rfl)
      | true =>
        refine codeAny_handlers_suite_as (HandSPX.lands_againZ fl3 fun h4 fl4 up4 => ?_)
        have J4 : Inv X pins σ' H' { s' with heap := h4 } := J.landed nb fl4.1 ((up.trans up3).trans up4) os ag
        obtain ⟨oe4, vs4, he4, hz4, hd4⟩ := fl4.there
        refine store_ok (X := X.suite a ((a, oe4) :: (X.pn ++ pins))) (v := .ref a) (J4.suite he4 hd4 na nL nF) hN hi (.inl hl) rfl (fun s5 S5 => ?_) (.inr hl)
        refine wpAny_mono ((hsu a oe4 cls d (X.pn ++ pins) hz4 ⟨_, hd4⟩).run [] s5 _ H' (gone D i) S5 (yes rfl a na)) (fun f s6 hsp => ?_) fun _ _ z => z.elim
        have fin : ∀ {σ6 : L2.St} {H6 : Hp} {Q : Shared → Prop}, Inv (X.suite a ((a, oe4) :: (X.pn ++ pins))) [] σ6 H6 s6 → (∀ s7, Inv X pins (σ6.set i none) H6 s7 → Q s7) →
          wpAny (model X.prog X.w) X.A (do bindName X.env n .none; unbindBehindTheSuite X.env n ps) (fun _ s7 => Q s7) X.xe s6 := fun S6 hq => gone_ok (S6.unsuite ok) hN hi hl hq
        match f, hsp with
        | .next, ⟨σ6, H6, S6, q6⟩ => exact fin S6 fun s7 J7 => ⟨_, _, J7, q6⟩
        | .brk, ⟨σ6, H6, S6, q6⟩ => exact fin S6 fun s7 J7 => ⟨_, _, J7, q6⟩
        | .cont, ⟨σ6, H6, S6, q6⟩ => exact fin S6 fun s7 J7 => ⟨_, _, J7, q6⟩
        | .ret u, ⟨v6, σ6, H6, S6, r6, q6⟩ => exact fin S6 fun s7 J7 => ⟨_, _, _, J7, r6, q6⟩
    | @bare x c ts b₀ suite np ps hds l hc hsu r ih =>
      rintro ⟨b, hb1, yes, no⟩
      have hb2 := PySem.W.exm_one (M := model X.prog X.w) J3.kIn LT hb1
      refine wpAny_handleBy_cons (codeAny_handlers_test (test hc (hb2.here ?_))) (fun q => nomatch q)
      cases b with
      | false => exact ih (no rfl)
      | true =>
        refine codeAny_handlers_suite (HandSPX.lands_againZ fl3 fun h4 fl4 up4 => ?_)
        have J4 : Inv X pins σ' H' { s' with heap := h4 } := J.landed nb fl4.1 ((up.trans up3).trans up4) os ag
        obtain ⟨oe4, vs4, he4, hz4, hd4⟩ := fl4.there
        refine wpAny_mono ((hsu a oe4 cls d (X.pn ++ pins) hz4 ⟨_, hd4⟩).run [] _ _ H' D (J4.suite he4 hd4 na nL nF) (yes rfl a na)) (fun f s6 hsp => ?_) fun _ _ z => z.elim
        match f, hsp with
        | .next, ⟨σ6, H6, S6, q6⟩ => exact ⟨_, _, S6.unsuite ok, q6⟩
        | .brk, ⟨σ6, H6, S6, q6⟩ => exact ⟨_, _, S6.unsuite ok, q6⟩
        | .cont, ⟨σ6, H6, S6, q6⟩ => exact ⟨_, _, S6.unsuite ok, q6⟩
        | .ret u, ⟨v6, σ6, H6, S6, r6, q6⟩ => exact ⟨_, _, _, S6.unsuite ok, r6, q6⟩
end
end Gd

namespace Gd
open PySem PySem.Spec PyProof.Rows L2
/-- a call of a def: the written arguments, then the defaults; what may be let out, at the slots -/
def tCallG (sp : Sp) (dvs : List V) (E : L2.St → XK) (t : TA) : TE := fun σ H Q => t σ H fun vs H1 => sp (vs ++ dvs) H1 Q (E σ)
/-- .. with keywords -/
def tCallH (n m : Nat) (sp : Sp) (gV : List V → List V → List V) (E : L2.St → XK) (t tk : TA) : TE := fun σ H Q => t σ H fun vs H1 => tk σ H1 fun zs H2 => vs.length = n ∧ zs.length = m ∧ sp (gV vs zs) H2 Q (E σ)
section
variable {X : Cx} {CX : CXT} {k n : Nat} {f : Addr} {fd : FuncData} {ps ks : List Str} {sp : Sp} {dvs : List V} {ds : List Value} {E : L2.St → XK} {x : Str} {p pos : Pos} {e : Expr} {es : List Expr} {t tk : TA} {kws : List Keyword}
  {g : List Value → List Value → List Value} {gV : List V → List V → List V}
theorem passN {σ : L2.St} : PassesAt CX0 X σ E0 := fun _ _ _ _ _ _ h => h.elim
theorem passM {σ : L2.St} : PassesAt (L2.CX X.prog X.w) X σ E0 := fun _ _ _ _ _ _ h => by
  obtain ⟨_, _, _, _, _, _, _, _, _, _, _, _, z⟩ := h
  exact z.elim
theorem endC {pins : List (Addr × Obj)} {σ : L2.St} {H : Hp} {s s' : Shared} {Q : VK} {E1 : XK} {r : Result} (hx : PassesAt CX X σ E1) (I : Inv X pins σ H s) (hq : CR CX X.stack X.prog X.w H s Q E1 r s') :
    match (motive := Result → Prop) r with
    | .ok (.ret v) => EP X pins σ Q v s'
    | .ok _ => False
    | .error e => X.xe e s' := by
  match r, hq with
  | .error e, hq => exact hx pins H s e s' I hq
  | .ok (.ret u), hq => exact I.after hq
  | .ok .next, hq => exact False.elim hq
  | .ok .brk, hq => exact False.elim hq
  | .ok .cont, hq => exact False.elim hq
theorem runC {pins : List (Addr × Obj)} {σ : L2.St} {H : Hp} {s : Shared} {Q : VK} {us : List Value} {vs : List V} (F : FnG X.prog X.w X.K X.mg X.base CX k f fd ps sp) (hc : Clean X.A) (hr : Room k X.A)
    (hb : Binds X.K fd ps ds) (hd : Vals dvs ds) (hx : PassesAt CX X σ (E σ)) (I : Inv X pins σ H s) (r : Vals vs us) (h : sp (vs ++ dvs) H Q (E σ)) :
    wpAny (model X.prog X.w) X.A (call (.ref f) us) (EP X pins σ Q) X.xe s := by
  have r2 := r.append hd
  have hl : (us ++ ds).length = ps.length := r2.length ▸ F.len _ _ _ _ h
  refine wpAny_call (codeAny_mono (F.run X.A X.stack s H ⟨us, []⟩ (us ++ ds) (vs ++ dvs) Q (E σ) hc hr I.env0 (hb s us I.kIn hl) r2 h) ?_)
  intro r s' hq
  have z := endC hx I hq
  match r, z with
  | .error e, z => exact z
  | .ok (.ret u), z => exact z
  | .ok .next, z => exact False.elim z
  | .ok .brk, z => exact False.elim z
  | .ok .cont, z => exact False.elim z
theorem runH {pins : List (Addr × Obj)} {σ : L2.St} {H : Hp} {s : Shared} {Q : VK} {us ws : List Value} {vs zs : List V} (F : FnG X.prog X.w X.K X.mg X.base CX k f fd ps sp) (hc : Clean X.A) (hr : Room k X.A)
    (hb : KBn X.K fd ps n ks g gV) (hx : PassesAt CX X σ (E σ)) (I : Inv X pins σ H s) (r : Vals vs us) (rz : Vals zs ws) (l1 : vs.length = n) (l2 : zs.length = ks.length) (h : sp (gV vs zs) H Q (E σ)) :
    wpAny (model X.prog X.w) X.A (call (.ref f) us (ks.zip ws)) (EP X pins σ Q) X.xe s := by
  refine wpAny_call (codeAny_mono (F.run X.A X.stack s H ⟨us, ks.zip ws⟩ (g us ws) (gV vs zs) Q (E σ) hc hr I.env0 (hb.to s us ws I.kIn (r.length.symm.trans l1) (rz.length.symm.trans l2)) (hb.rel r rz) h) ?_)
  intro r s' hq
  have z := endC hx I hq
  match r, z with
  | .error e, z => exact z
  | .ok (.ret u), z => exact z
  | .ok .next, z => exact False.elim z
  | .ok .brk, z => exact False.elim z
  | .ok .cont, z => exact False.elim z
/-- f(e, ..) -/
theorem pe_c (F : FnG X.prog X.w X.K X.mg X.base CX k f fd ps sp) (hc : Clean X.A) (hr : Room k X.A) (hg : Gl X x) (hm : X.mg x = some (.ref f)) (hk : PySem.W.keepIn X.K (.ref f) = true)
    (hb : Binds X.K fd ps ds) (hd : Vals dvs ds) (hx : ∀ σ, PassesAt CX X σ (E σ)) (ha : PA X (e :: es) t) (hdb : (x == ("__debug__" : Str)) = false := by decide)
    (he : starEach (e :: es) X.env = (false, eval e X.env) :: starEach es X.env := by rfl) (hpl : (backTo pos (starEach es X.env)).any (·.1) = false := by rfl) :
    PE X (.Call (.Name x p) (e :: es) [] pos) (tCallG sp dvs E t) := by
  refine ⟨fun pins s σ H Q I h => wpAny_Call_Name_kw (ld_glob I hg hm ?_ hdb)⟩
  exact PySem.W.callWith_K (h₀ := X.base) I.ok.mod.kin hk (thn (ha.run pos pins s σ H _ I h) fun us s1 ⟨vs, H1, I1, r, q⟩ => ⟨I1.kIn, runC F hc hr hb hd (hx σ) I1 r q⟩) he hpl
/-- f() -/
theorem pe_c0 (F : FnG X.prog X.w X.K X.mg X.base CX k f fd ps sp) (hc : Clean X.A) (hr : Room k X.A) (hg : Gl X x) (hm : X.mg x = some (.ref f)) (hk : PySem.W.keepIn X.K (.ref f) = true)
    (hb : Binds X.K fd ps ds) (hd : Vals dvs ds) (hx : ∀ σ, PassesAt CX X σ (E σ)) (hdb : (x == ("__debug__" : Str)) = false := by decide) :
    PE X (.Call (.Name x p) [] [] pos) (tCallG sp dvs E tNil) := by
  refine ⟨fun pins s σ H Q I h => wpAny_Call_Name_kw (ld_glob I hg hm ?_ hdb)⟩
  exact PySem.W.callWith_K0 I.kIn hk (runC (us := []) F hc hr hb hd (hx σ) I .nil h)
/-- f(e, .., k = v, ..) -/
theorem pe_h (F : FnG X.prog X.w X.K X.mg X.base CX k f fd ps sp) (hc : Clean X.A) (hr : Room k X.A) (hg : Gl X x) (hm : X.mg x = some (.ref f)) (hk : PySem.W.keepIn X.K (.ref f) = true)
    (hb : KBn X.K fd ps n ks g gV) (hx : ∀ σ, PassesAt CX X σ (E σ)) (ha : PA X (e :: es) t) (hkw : PK X kws tk)
    (hall : (backToKw pos (keywordEach kws X.env)).all (·.1.isSome) = true := by rfl) (hks : (backToKw pos (keywordEach kws X.env)).filterMap (·.1) = ks := by rfl) (hdb : (x == ("__debug__" : Str)) = false := by decide)
    (he : starEach (e :: es) X.env = (false, eval e X.env) :: starEach es X.env := by rfl)
    (hpl : ((backTo pos (starEach (e :: es) X.env)).any (·.1) || (backToKw pos (keywordEach kws X.env)).any (·.1.isNone)) = false := by rfl) :
    PE X (.Call (.Name x p) (e :: es) kws pos) (tCallH n ks.length sp gV E t tk) := by
  refine ⟨fun pins s σ H Q I h => wpAny_Call_Name_kw (ld_glob I hg hm ?_ hdb)⟩
  refine PySem.W.callWith_KW (h₀ := X.base) I.ok.mod.kin hk hall (thn (ha.run pos pins s σ H _ I h) fun us s1 ⟨vs, H1, I1, r, q⟩ => ?_) hpl he
  refine thn (hkw.run pos pins s1 σ H1 _ I1 q) fun ws s2 ⟨zs, H2, I2, rz, l1, l2, q2⟩ => ⟨I2.kIn, ?_⟩
  rw [hks]
  exact runH F hc hr hb (hx σ) I2 r rz l1 l2 q2
/-- f(k = v, ..) -/
theorem pe_h0 (F : FnG X.prog X.w X.K X.mg X.base CX k f fd ps sp) (hc : Clean X.A) (hr : Room k X.A) (hg : Gl X x) (hm : X.mg x = some (.ref f)) (hk : PySem.W.keepIn X.K (.ref f) = true)
    (hb : KBn X.K fd ps 0 ks g gV) (hx : ∀ σ, PassesAt CX X σ (E σ)) (hkw : PK X kws tk)
    (hall : (backToKw pos (keywordEach kws X.env)).all (·.1.isSome) = true := by rfl) (hks : (backToKw pos (keywordEach kws X.env)).filterMap (·.1) = ks := by rfl) (hdb : (x == ("__debug__" : Str)) = false := by decide)
    (hpl : ((backTo pos (starEach [] X.env)).any (·.1) || (backToKw pos (keywordEach kws X.env)).any (·.1.isNone)) = false := by rfl) :
    PE X (.Call (.Name x p) [] kws pos) (tCallH 0 ks.length sp gV E tNil tk) := by
  refine ⟨fun pins s σ H Q I h => wpAny_Call_Name_kw (ld_glob I hg hm ?_ hdb)⟩
  refine PySem.W.callWith_KW0 (h₀ := X.base) I.ok.mod.kin hk hall (thn (hkw.run pos pins s σ H _ I h) fun ws s2 ⟨zs, H2, I2, rz, l1, l2, q2⟩ => ⟨I2.kIn, ?_⟩) hpl
  rw [hks]
  exact runH (us := []) F hc hr hb (hx σ) I2 .nil rz l1 l2 q2
end
end Gd

namespace Gd
open PySem PySem.Spec PyProof.Rows L2
/-! ### data as it stands in the heap, dicts among it -/
def kD : Key → PyData
  | .inl i => .int i
  | .inr x => .str x
mutual
inductive Da (K : PySem.W.Frag) (H : Hp) : V → PyData → Prop
  | non : Da K H .non .none
  | bl (b : Bool) : Da K H (.bl b) (.bool b)
  | int (i : Int) : Da K H (.int i) (.int i)
  | str (x : Str) : Da K H (.str x) (.str x)
  | lst {a : Addr} {xs : List V} {ds : List PyData} : H a = some (.lst xs) → DaL K H xs ds → Da K H (.ref a) (.list ds)
  | tup {a : Addr} {xs : List V} {ds : List PyData} : SqT K H a xs → DaL K H xs ds → Da K H (.ref a) (.tuple ds)
  | dct {a : Addr} {kvs : List (Key × V)} {ds : List PyData} : H a = some (.dK kvs) → DaL K H (kvs.map (·.2)) ds → Da K H (.ref a) (.dict ((kvs.map fun p => kD p.1).zip ds))
inductive DaL (K : PySem.W.Frag) (H : Hp) : List V → List PyData → Prop
  | nil : DaL K H [] []
  | cons {v : V} {vs : List V} {d : PyData} {ds : List PyData} : Da K H v d → DaL K H vs ds → DaL K H (v :: vs) (d :: ds)
end
section
variable {K : PySem.W.Frag} {H H' : Hp}
theorem DaL.length : ∀ {vs : List V} {ds : List PyData}, DaL K H vs ds → ds.length = vs.length
  | _, _, .nil => rfl
  | _, _, .cons _ r => by rw [List.length_cons, List.length_cons, r.length]
theorem sameT {a : Addr} {xs : List V} (e : Same H H') (h : SqT K H a xs) : SqT K H' a xs := by
  rcases h with (h | ⟨o, h⟩) | h
  · exact .inl (.inl (e _ _ h))
  · exact .inl (.inr ⟨o, e _ _ h⟩)
  · exact .inr h
mutual
theorem Da.same (e : Same H H') : ∀ {v : V} {d : PyData}, Da K H v d → Da K H' v d
  | _, _, .non => .non
  | _, _, .bl b => .bl b
  | _, _, .int i => .int i
  | _, _, .str x => .str x
  | _, _, .lst h r => .lst (e _ _ h) (DaL.same e r)
  | _, _, .tup h r => .tup (sameT e h) (DaL.same e r)
  | _, _, .dct h r => .dct (e _ _ h) (DaL.same e r)
theorem DaL.same (e : Same H H') : ∀ {vs : List V} {ds : List PyData}, DaL K H vs ds → DaL K H' vs ds
  | _, _, .nil => .nil
  | _, _, .cons h r => .cons (Da.same e h) (DaL.same e r)
end
theorem DaL.append : ∀ {vs ws : List V} {ds es : List PyData}, DaL K H vs ds → DaL K H ws es → DaL K H (vs ++ ws) (ds ++ es)
  | _, _, _, _, .nil, r => r
  | _, _, _, _, .cons h t, r => .cons h (DaL.append t r)
theorem DaL.strs : ∀ l : List Str, DaL K H (l.map V.str) (l.map PyData.str)
  | [] => .nil
  | x :: l => .cons (.str x) (DaL.strs l)
theorem DaL.ints : ∀ l : List Int, DaL K H (l.map V.int) (l.map PyData.int)
  | [] => .nil
  | x :: l => .cons (.int x) (DaL.ints l)
theorem DaL.bls : ∀ l : List Bool, DaL K H (l.map V.bl) (l.map PyData.bool)
  | [] => .nil
  | x :: l => .cons (.bl x) (DaL.bls l)
end
/-! ### what stands there is read -/
section
variable {X : Cx} {pins : List (Addr × Obj)} {σ : L2.St} {H : Hp} {s : Shared}
abbrev Free (as : List Addr) : Prop := sysModules ∉ as
theorem free_cons {a : Addr} {as : List Addr} (h : a ≠ sysModules) (r : Free as) : Free (a :: as) := fun m =>
  (List.mem_cons.mp m).elim (fun e => h e.symm) r
theorem free_app {as bs : List Addr} (h : Free as) (r : Free bs) : Free (as ++ bs) := fun m => (List.mem_append.mp m).elim h r
theorem notSys (I : Inv X pins σ H s) (hS : SysIn X.base) {a : Addr} {o : HO} (h : H a = some o) : a ≠ sysModules := by
  rintro rfl
  obtain ⟨ob, hb⟩ := hS
  rw [(I.bs _ _ hb).2] at h
  exact nomatch h
theorem key_reads : ∀ (kvs : List (Key × V)) (vs : List (Key × Value)) (es : List DictEntry), KV kvs vs → Pairs (mixKind X.prog X.w) es vs →
    (∃ as, ReadsAll s.heap (es.map (·.key)) (kvs.map fun p => kD p.1) as ∧ Free as) ∧ Vals (kvs.map (·.2)) (es.map (·.val))
  | _, _, _, .nil, .nil => ⟨⟨[], .nil, List.not_mem_nil⟩, .nil⟩
  | _, _, _, .cons ⟨ek, rv⟩ r, .cons hk hv p => by
    obtain ⟨⟨as, h1, h2⟩, h3⟩ := key_reads _ _ _ r p
    refine ⟨?_, .cons (by show RelV _ (DictEntry.val _); rw [hv]; exact rv) h3⟩
    rw [← ek] at hk
    rcases keyIs_shape hk with ⟨i, t, e1, e2⟩ | ⟨y, t, e1, e2⟩
    · refine ⟨[] ++ as, ?_, h2⟩
      refine .cons ?_ h1
      show Reads _ (DictEntry.key _) (kD _) []
      rw [e1, e2]
      exact .int i t
    · refine ⟨[] ++ as, ?_, h2⟩
      refine .cons ?_ h1
      show Reads _ (DictEntry.key _) (kD _) []
      rw [e1, e2]
      exact .str y t
theorem zip_fst : ∀ (ks ds : List PyData), ks.length = ds.length → (ks.zip ds).map (·.1) = ks
  | [], _, _ => rfl
  | _ :: _, [], h => nomatch h
  | k :: ks, d :: ds, h => by
    show k :: (ks.zip ds).map (·.1) = k :: ks
    rw [zip_fst ks ds (Nat.succ.inj h)]
theorem zip_snd : ∀ (ks ds : List PyData), ks.length = ds.length → (ks.zip ds).map (·.2) = ds
  | [], [], _ => rfl
  | [], _ :: _, h => nomatch h
  | _ :: _, [], h => nomatch h
  | k :: ks, d :: ds, h => by
    show d :: (ks.zip ds).map (·.2) = d :: ds
    rw [zip_snd ks ds (Nat.succ.inj h)]
mutual
theorem Da.reads (I : Inv X pins σ H s) (hS : SysIn X.base) : ∀ {v : V} {d : PyData} {u : Value}, Da X.K H v d → RelV v u → ∃ as, Reads s.heap u d as ∧ Free as
  | _, _, _, .non, r => by
    cases r
    exact ⟨_, .none, List.not_mem_nil⟩
  | _, _, _, .bl b, r => by
    cases r
    exact ⟨_, .bool b, List.not_mem_nil⟩
  | _, _, _, .int i, ⟨t, r⟩ => by
    cases r
    exact ⟨_, .int i t, List.not_mem_nil⟩
  | _, _, _, .str x, ⟨t, r⟩ => by
    cases r
    exact ⟨_, .str x t, List.not_mem_nil⟩
  | _, _, _, .lst h q, r => by
    cases r
    obtain ⟨_, its, n, rv, ho⟩ := I.hok _ _ h
    obtain ⟨as, h1, h2⟩ := DaL.reads I hS q rv
    exact ⟨_, .list ho rfl rfl h1, free_cons (notSys I hS h) h2⟩
  | _, _, _, .tup h q, r => by
    cases r
    obtain ⟨its, rv, ⟨o, ho, hc, n, hd⟩, _⟩ := I.tuple h
    obtain ⟨as, h1, h2⟩ := DaL.reads I hS q rv
    exact ⟨_, .tuple ho hc hd h1, h2⟩
  | _, _, _, .dct (kvs := kvs) (ds := ds) h q, r => by
    cases r
    obtain ⟨_, hns, vs, rk, o, es, ep, ho, hex, hd, _, hp, _⟩ := I.hok _ _ h
    obtain ⟨⟨as, k1, k2⟩, rv⟩ := key_reads (s := s) kvs vs es.toList rk hp
    obtain ⟨bs, v1, v2⟩ := DaL.reads I hS q rv
    have hl : (kvs.map fun p => kD p.1).length = ds.length := by
      rw [q.length, List.length_map, List.length_map]
    have k1' : ReadsAll s.heap (es.toList.map (·.key)) (((kvs.map fun p => kD p.1).zip ds).map (·.1)) as := by
      rw [zip_fst _ _ hl]
      exact k1
    have v1' : ReadsAll s.heap (es.toList.map (·.val)) (((kvs.map fun p => kD p.1).zip ds).map (·.2)) bs := by
      rw [zip_snd _ _ hl]
      exact v1
    exact ⟨_, .dict ho hex.1 hd k1' v1', free_app (free_cons (notSys I hS h) k2) v2⟩
theorem DaL.reads (I : Inv X pins σ H s) (hS : SysIn X.base) : ∀ {vs : List V} {ds : List PyData} {us : List Value}, DaL X.K H vs ds → Vals vs us → ∃ as, ReadsAll s.heap us ds as ∧ Free as
  | _, _, _, .nil, .nil => ⟨_, .nil, List.not_mem_nil⟩
  | _, _, _, .cons h q, .cons r rs => by
    obtain ⟨as, h1, h2⟩ := Da.reads I hS h r
    obtain ⟨bs, h3, h4⟩ := DaL.reads I hS q rs
    exact ⟨_, .cons h1 h3, free_app h2 h4⟩
end
end
/-! ### the room that a written form takes -/
mutual
/-- more than its written form has signs -/
def wid : PyData → Nat
  | .none => 4
  | .bool _ => 5
  | .int i => i.natAbs.log2 + 3
  | .str x => 10 * x.length + 2
  | .list xs => widL xs + 2
  | .tuple xs => widL xs + 3
  | .dict kvs => widK kvs + 2
def widL : List PyData → Nat
  | [] => 0
  | x :: xs => wid x + 2 + widL xs
def widK : List (PyData × PyData) → Nat
  | [] => 0
  | (k, v) :: r => wid k + wid v + 4 + widK r
end
mutual
/-- it can be written: the signs of its texts are signs, its numbers are not too great -/
def Ok1 : PyData → Prop
  | .none => True
  | .bool _ => True
  | .int i => i.natAbs.log2 < 1920
  | .str x => ∀ c ∈ x.cps.toList, c < 16 ^ 8
  | .list xs => OkL xs
  | .tuple xs => OkL xs
  | .dict kvs => OkK kvs
def OkL : List PyData → Prop
  | [] => True
  | x :: xs => Ok1 x ∧ OkL xs
def OkK : List (PyData × PyData) → Prop
  | [] => True
  | (k, v) :: r => Ok1 k ∧ Ok1 v ∧ OkK r
end

mutual
theorem ok_show : ∀ d : PyData, Ok1 d → d.showable = true
  | .none, _ => rfl
  | .bool _, _ => rfl
  | .int _, h => decide_eq_true h
  | .str _, _ => rfl
  | .list xs, h => ok_showL xs h
  | .tuple xs, h => ok_showL xs h
  | .dict kvs, h => ok_showK kvs h
theorem ok_showL : ∀ xs : List PyData, OkL xs → PyData.showableAll xs = true
  | [], _ => rfl
  | x :: xs, h => by
    show (PyData.showable x && PyData.showableAll xs) = true
    rw [ok_show x h.1, ok_showL xs h.2]
    rfl
theorem ok_showK : ∀ xs : List (PyData × PyData), OkK xs → PyData.showableKv xs = true
  | [], _ => rfl
  | (k, v) :: xs, h => by
    show (PyData.showable k && PyData.showable v && PyData.showableKv xs) = true
    rw [ok_show k h.1, ok_show v h.2.1, ok_showK xs h.2.2]
    rfl
end
theorem textFrom_le : ∀ (ts : List Str) (k : Nat) (acc : Str), (textFrom k acc ts).length ≤ acc.length + (ts.map fun t => t.length + 2).sum
  | [], _, acc => Nat.le_add_right _ _
  | t :: r, k, acc => by
    have ih := textFrom_le r (k + 1) (acc ++ (if k > 0 then ", " else "" : String) ++ t)
    rw [strLen_append, strLen_append] at ih
    have e : (((if k > 0 then ", " else "" : String) : Str)).length ≤ 2 := by split <;> decide +kernel
    rw [List.map_cons, List.sum_cons]
    show (textFrom (k + 1) (acc ++ (if k > 0 then ", " else "" : String) ++ t) r).length ≤ _
    omega
theorem listText_le (ts : List Str) : (listText ts).length ≤ 2 + (ts.map fun t => t.length + 2).sum := by
  have h := textFrom_le ts 0 "["
  have e1 : (("[" : String) : Str).length = 1 := by decide +kernel
  have e2 : (("]" : String) : Str).length = 1 := by decide +kernel
  unfold listText
  rw [strLen_append]
  omega
theorem piled_map : ∀ ts : List Str, piled ts = (ts.map fun t => t.length + 2).sum
  | [] => rfl
  | t :: r => by
    rw [piled_cons, piled_map r, List.map_cons, List.sum_cons]
theorem join_le (ts : List Str) : (Str.join ", " ts).length ≤ (ts.map fun t => t.length + 2).sum := by
  by_cases h : ts = []
  · subst h
    decide +kernel
  · have := join_length_add ts h
    rw [piled_map] at this
    omega
theorem tupleText_le (ts : List Str) : (tupleText ts).length ≤ 3 + (ts.map fun t => t.length + 2).sum := by
  have e3 : (((if ts.length == 1 then ",)" else ")" : String) : Str)).length ≤ 2 := by split <;> decide +kernel
  have e1 : (("(" : String) : Str).length = 1 := by decide +kernel
  have h := join_le ts
  unfold tupleText
  rw [strLen_append, strLen_append]
  omega
theorem dictText_le (ts : List Str) : (dictText ts).length ≤ 2 + (ts.map fun t => t.length + 2).sum := by
  have e1 : (("{" : String) : Str).length = 1 := by decide +kernel
  have e2 : (("}" : String) : Str).length = 1 := by decide +kernel
  have h := join_le ts
  unfold dictText
  rw [strLen_append, strLen_append]
  omega
mutual
theorem wid_le : ∀ d : PyData, Ok1 d → d.shown.length ≤ wid d
  | .none, _ => by show (("None" : String) : Str).length ≤ 4; decide +kernel
  | .bool b, _ => by cases b <;> (show Str.length _ ≤ 5) <;> decide +kernel
  | .int i, _ => by
    have h := int_text_length_le (a := i) (k := i.natAbs.log2 + 1) (Nat.succ_pos _) (Nat.lt_succ_self _)
    show (Str.ofString (toString i)).length ≤ i.natAbs.log2 + 3
    have e : (Str.ofString (toString i)).length = (toString i).length := PySem.ofString_length _
    omega
  | .str x, h => StrLaws.reprText_len x h
  | .list xs, h => by
    have h1 := widL_le xs h
    have h2 := listText_le (PyData.shownAll xs)
    show (listText (PyData.shownAll xs)).length ≤ widL xs + 2
    omega
  | .tuple xs, h => by
    have h1 := widL_le xs h
    have h2 := tupleText_le (PyData.shownAll xs)
    show (tupleText (PyData.shownAll xs)).length ≤ widL xs + 3
    omega
  | .dict xs, h => by
    have h1 := widK_le xs h
    have h2 := dictText_le (PyData.shownKv xs)
    show (dictText (PyData.shownKv xs)).length ≤ widK xs + 2
    omega
theorem widL_le : ∀ xs : List PyData, OkL xs → ((PyData.shownAll xs).map fun t => t.length + 2).sum ≤ widL xs
  | [], _ => Nat.le_refl _
  | x :: xs, h => by
    have h1 := wid_le x h.1
    have h2 := widL_le xs h.2
    show (x.shown.length + 2) + ((PyData.shownAll xs).map fun t => t.length + 2).sum ≤ wid x + 2 + widL xs
    omega
theorem widK_le : ∀ xs : List (PyData × PyData), OkK xs → ((PyData.shownKv xs).map fun t => t.length + 2).sum ≤ widK xs
  | [], _ => Nat.le_refl _
  | (k, v) :: xs, h => by
    have h1 := wid_le k h.1
    have h2 := wid_le v h.2.1
    have h3 := widK_le xs h.2.2
    have e2 : ((": " : String) : Str).length = 2 := by decide +kernel
    show ((k.shown ++ ": " ++ v.shown).length + 2) + ((PyData.shownKv xs).map fun t => t.length + 2).sum ≤ wid k + wid v + 4 + widK xs
    rw [strLen_append, strLen_append]
    omega
end
/-- repr of data: the text, all else as it stood -/
theorem call_repr {X : Cx} (hc : Clean X.A) (hS : SysIn X.base) (hu : X.A.units + 100 < cLine) : CallR X (.builtin "repr") (fun xs H Q => ∃ x d, xs = [x] ∧ Da X.K H x d ∧ Ok1 d ∧ wid d ≤ sizeLine ∧ d.depth ≤ 64 ∧ Q (.str d.shown) H) := by
  intro pins s σ H xs us Q I r h
  obtain ⟨x, d, rfl, hd, ok, hz, hdp, q⟩ := h
  obtain ⟨u, rfl, ru⟩ := vals1 r
  have hz' : d.shown.length ≤ sizeLine := Nat.le_trans (wid_le d ok) hz
  obtain ⟨as, hr, hf⟩ := Da.reads I hS hd ru
  have fin : ∀ (t tk : Tok) (h' : Heap), (∀ b o, s.heap.get? b = some o → h'.get? b = some o) → EP X pins σ Q (.str d.shown t) { s with heap := h', toks := tk } :=
    fun t tk h' k => ⟨.str d.shown, H, I.kept k, ⟨t, rfl⟩, q⟩
  cases hd with
  | non =>
    cases ru
    exact PySem.P.repr_of_none (fin _ _ s.heap fun _ _ e => e)
  | bl b =>
    cases ru
    exact PySem.P.repr_of_bool (fin _ _ s.heap fun _ _ e => e)
  | int i =>
    obtain ⟨t, rfl⟩ := ru
    exact PySem.P.repr_of_int ok (fin _ _ s.heap fun _ _ e => e)
  | str y =>
    obtain ⟨t, rfl⟩ := ru
    exact PySem.P.repr_of_str (fin _ _ s.heap fun _ _ e => e) hz'
  | lst h1 h2 =>
    cases ru
    exact repr_of_reads' hr (ok_show _ ok) (fun _ => hf) hc (by omega) (fun _ _ e => e) (fun h' u tk k => fin u tk h' k) hz'
  | tup h1 h2 =>
    cases ru
    exact repr_of_reads' hr (ok_show _ ok) (fun _ => hf) hc (by omega) (fun _ _ e => e) (fun h' u tk k => fin u tk h' k) hz'
  | dct h1 h2 =>
    cases ru
    exact repr_of_reads' hr (ok_show _ ok) (fun _ => hf) hc (by omega) (fun _ _ e => e) (fun h' u tk k => fin u tk h' k) hz'
end Gd

namespace Gd
open PySem PySem.Spec PyProof.Rows L2
/-! ### a def as its callers see it -/
structure Df (P : Program) (w : World) (K : PySem.W.Frag) (mg : Str → Option Value) (base : Heap) (CX : CXT) (k : Nat) (x : Str) (f : Addr) (fd : FuncData) (ps : List Str) (sp : Sp) : Prop where
  G : FnG P w K mg base CX k f fd ps sp
  m : mg x = some (.ref f)
  kp : PySem.W.keepIn K (.ref f) = true
  b : Binds K fd ps []
theorem room100 {k : Nat} {A : Around} (r : Room k A) : A.units + 100 < cLine := by
  have := r.un
  omega
section
variable {X : Cx} {CX : CXT} {k n : Nat} {f : Addr} {fd : FuncData} {ps ks : List Str} {sp : Sp} {E : L2.St → XK} {x : Str} {p pos : Pos} {e : Expr} {es : List Expr} {t tk : TA} {kws : List Keyword}
  {g : List Value → List Value → List Value} {gV : List V → List V → List V}
theorem pe_k {v : V} {x : Str} {pos : Pos} (hg : Gl X x) (h : ∃ u, X.mg x = some u ∧ RelV v u) (hd : (x == ("__debug__" : Str)) = false := by decide) : PE X (.Name x pos) (tC v) :=
  let ⟨_, h1, h2⟩ := h
  pe_glob hg h1 h2 hd
theorem pe_d (D : Df X.prog X.w X.K X.mg X.base CX k x f fd ps sp) (hc : Clean X.A) (hr : Room k X.A) (hg : Gl X x) (hx : ∀ σ, PassesAt CX X σ (E σ)) (ha : PA X (e :: es) t) (hdb : (x == ("__debug__" : Str)) = false := by decide)
    (he : starEach (e :: es) X.env = (false, eval e X.env) :: starEach es X.env := by rfl) (hpl : (backTo pos (starEach es X.env)).any (·.1) = false := by rfl) :
    PE X (.Call (.Name x p) (e :: es) [] pos) (tCallG sp [] E t) := pe_c D.G hc hr hg D.m D.kp D.b .nil hx ha hdb he hpl
theorem pe_d0 (D : Df X.prog X.w X.K X.mg X.base CX k x f fd ps sp) (hc : Clean X.A) (hr : Room k X.A) (hg : Gl X x) (hx : ∀ σ, PassesAt CX X σ (E σ)) (hdb : (x == ("__debug__" : Str)) = false := by decide) :
    PE X (.Call (.Name x p) [] [] pos) (tCallG sp [] E tNil) := pe_c0 D.G hc hr hg D.m D.kp D.b .nil hx hdb
/-- with defaults -/
structure Dd (P : Program) (w : World) (K : PySem.W.Frag) (mg : Str → Option Value) (base : Heap) (CX : CXT) (k : Nat) (x : Str) (f : Addr) (fd : FuncData) (ps : List Str) (dvs : List V) (sp : Sp) : Prop where
  G : FnG P w K mg base CX k f fd ps sp
  m : mg x = some (.ref f)
  kp : PySem.W.keepIn K (.ref f) = true
  b : ∃ ds, Vals dvs ds ∧ Binds K fd ps ds
theorem pe_dd {dvs : List V} (D : Dd X.prog X.w X.K X.mg X.base CX k x f fd ps dvs sp) (hc : Clean X.A) (hr : Room k X.A) (hg : Gl X x) (hx : ∀ σ, PassesAt CX X σ (E σ)) (ha : PA X (e :: es) t) (hdb : (x == ("__debug__" : Str)) = false := by decide)
    (he : starEach (e :: es) X.env = (false, eval e X.env) :: starEach es X.env := by rfl) (hpl : (backTo pos (starEach es X.env)).any (·.1) = false := by rfl) :
    PE X (.Call (.Name x p) (e :: es) [] pos) (tCallG sp dvs E t) :=
  let ⟨_, hd, hb⟩ := D.b
  pe_c D.G hc hr hg D.m D.kp hb hd hx ha hdb he hpl
/-- called with keywords -/
structure Dk (P : Program) (w : World) (K : PySem.W.Frag) (mg : Str → Option Value) (base : Heap) (CX : CXT) (k : Nat) (x : Str) (f : Addr) (fd : FuncData) (ps : List Str) (sp : Sp) (n : Nat) (ks : List Str) (gV : List V → List V → List V) : Prop where
  G : FnG P w K mg base CX k f fd ps sp
  m : mg x = some (.ref f)
  kp : PySem.W.keepIn K (.ref f) = true
  b : ∃ g, KBn K fd ps n ks g gV
theorem pe_dk (D : Dk X.prog X.w X.K X.mg X.base CX k x f fd ps sp n ks gV) (hc : Clean X.A) (hr : Room k X.A) (hg : Gl X x) (hx : ∀ σ, PassesAt CX X σ (E σ)) (ha : PA X (e :: es) t) (hkw : PK X kws tk)
    (hall : (backToKw pos (keywordEach kws X.env)).all (·.1.isSome) = true := by rfl) (hks : (backToKw pos (keywordEach kws X.env)).filterMap (·.1) = ks := by rfl) (hdb : (x == ("__debug__" : Str)) = false := by decide)
    (he : starEach (e :: es) X.env = (false, eval e X.env) :: starEach es X.env := by rfl)
    (hpl : ((backTo pos (starEach (e :: es) X.env)).any (·.1) || (backToKw pos (keywordEach kws X.env)).any (·.1.isNone)) = false := by rfl) :
    PE X (.Call (.Name x p) (e :: es) kws pos) (tCallH n ks.length sp gV E t tk) :=
  let ⟨_, hb⟩ := D.b
  pe_h D.G hc hr hg D.m D.kp hb hx ha hkw hall hks hdb he hpl
theorem pe_dk0 (D : Dk X.prog X.w X.K X.mg X.base CX k x f fd ps sp 0 ks gV) (hc : Clean X.A) (hr : Room k X.A) (hg : Gl X x) (hx : ∀ σ, PassesAt CX X σ (E σ)) (hkw : PK X kws tk)
    (hall : (backToKw pos (keywordEach kws X.env)).all (·.1.isSome) = true := by rfl) (hks : (backToKw pos (keywordEach kws X.env)).filterMap (·.1) = ks := by rfl) (hdb : (x == ("__debug__" : Str)) = false := by decide)
    (hpl : ((backTo pos (starEach [] X.env)).any (·.1) || (backToKw pos (keywordEach kws X.env)).any (·.1.isNone)) = false := by rfl) :
    PE X (.Call (.Name x p) [] kws pos) (tCallH 0 ks.length sp gV E tNil tk) :=
  let ⟨_, hb⟩ := D.b
  pe_h0 D.G hc hr hg D.m D.kp hb hx hkw hall hks hdb hpl
end
/-! ### is True, is not False -/
section
variable {X : Cx}
theorem rel_bl {x : V} {u : Value} {b : Bool} (r : RelV x u) (h : x ≠ .bl b) : u ≠ Value.bool b := by
  intro e
  subst e
  cases x with
  | bl c =>
    have : Value.bool b = Value.bool c := r
    cases this
    exact h rfl
  | non => exact nomatch (r : Value.bool b = Value.none)
  | int _ => obtain ⟨_, q⟩ := r; exact nomatch q
  | str _ => obtain ⟨_, q⟩ := r; exact nomatch q
  | byt _ => obtain ⟨_, q⟩ := r; exact nomatch q
  | flt _ => obtain ⟨_, q⟩ := r; exact nomatch q
  | ref a => exact nomatch (r : Value.bool b = Value.ref a)
  | ty n => exact nomatch (r : Value.bool b = Value.type n)
theorem plain_bl {x : V} {u : Value} {b : Bool} (r : RelV x u) : plainIs u (Value.bool b) = true := by
  cases x with
  | bl c => cases (show u = Value.bool c from r); rfl
  | non => cases (show u = Value.none from r); rfl
  | int _ => obtain ⟨_, q⟩ := r; subst q; rfl
  | str _ => obtain ⟨_, q⟩ := r; subst q; rfl
  | byt _ => obtain ⟨_, q⟩ := r; subst q; rfl
  | flt _ => obtain ⟨_, q⟩ := r; subst q; rfl
  | ref a => cases (show u = Value.ref a from r); rfl
  | ty n => cases (show u = Value.type n from r); rfl
theorem op_isB : OpR X (compareOp .Is) (fun x y H Q => ∃ b, y = .bl b ∧ Q (.bl (decide (x = .bl b))) H) := by
  intro pins s σ H x y v u Q I rx ry h
  obtain ⟨b, rfl, q⟩ := h
  cases (show u = Value.bool b from ry)
  by_cases e : x = .bl b
  · subst e
    cases (show v = Value.bool b from rx)
    exact wpAny_is_self rfl ⟨.bl true, H, I, rfl, by simpa using q⟩
  · exact wpAny_is_other (plain_bl rx) (rel_bl rx e) ⟨.bl false, H, I, rfl, by simpa [e] using q⟩
theorem op_notB : OpR X (compareOp .IsNot) (fun x y H Q => ∃ b, y = .bl b ∧ Q (.bl (!decide (x = .bl b))) H) := by
  intro pins s σ H x y v u Q I rx ry h
  obtain ⟨b, rfl, q⟩ := h
  cases (show u = Value.bool b from ry)
  by_cases e : x = .bl b
  · subst e
    cases (show v = Value.bool b from rx)
    exact wpAny_isNot_self rfl ⟨.bl false, H, I, rfl, by simpa using q⟩
  · exact wpAny_isNot_other (plain_bl rx) (rel_bl rx e) ⟨.bl true, H, I, rfl, by simpa [e] using q⟩
/-! ### s * n -/
def repS (x : Str) (n : Int) : Str := ⟨(List.replicate n.toNat x.cps).foldl (· ++ ·) #[]⟩
theorem fold_app (c : Array Nat) : ∀ (n : Nat) (a : Array Nat), ((List.replicate n c).foldl (· ++ ·) a).toList = a.toList ++ (List.replicate n c.toList).flatten
  | 0, a => by simp
  | n + 1, a => by
    rw [List.replicate_succ, List.foldl_cons, fold_app c n (a ++ c), List.replicate_succ, List.flatten_cons, Array.toList_append, List.append_assoc]
theorem repS_list (x : Str) (n : Int) : (repS x n).cps.toList = (List.replicate n.toNat x.cps.toList).flatten := by
  show ((List.replicate n.toNat x.cps).foldl (· ++ ·) #[]).toList = _
  rw [fold_app]
  rfl
theorem op_repS : OpR X (binaryOp .Mult) (fun x y H Q => ∃ z n, x = .str z ∧ y = .int n ∧ 1 < n ∧ n < 1000000 ∧ z.length ≠ 0 ∧ z.length * n.toNat ≤ sizeLine ∧ Q (.str (repS z n)) H) := by
  intro pins s σ H x y v u Q I rx ry h
  obtain ⟨z, n, rfl, rfl, h1, h2, h0, hz, q⟩ := h
  obtain ⟨t, rfl⟩ := rx
  obtain ⟨t', rfl⟩ := ry
  have e1 : (n == 1 || z.length == 0) = false := by
    rw [Bool.or_eq_false_iff]
    exact ⟨beq_eq_false_iff_ne.mpr (by omega), beq_eq_false_iff_ne.mpr h0⟩
  have hb : ¬ (z.length : Int) > (2 ^ 63 - 1) / n := by
    intro c
    have hs := hz
    rw [sizeLine_eq] at hs
    have h3 : (z.length : Int) * n ≤ 16777216 := by
      have h4 : ((z.length * n.toNat : Nat) : Int) ≤ 16777216 := Int.ofNat_le.mpr hs
      rw [Int.natCast_mul, Int.toNat_of_nonneg (by omega)] at h4
      exact h4
    have h5 : (z.length : Int) ≤ 16777216 := by
      have h6 : (1 : Int) ≤ z.length := by omega
      have h7 : (z.length : Int) * 1 ≤ (z.length : Int) * n := Int.mul_le_mul_of_nonneg_left (by omega) (by omega)
      omega
    have h8 : (2 ^ 63 - 1 : Int) / n ≥ (2 ^ 63 - 1) / 1000000 := by
      have : (2 ^ 63 - 1 : Int) / 1000000 * n ≤ (2 ^ 63 - 1) := by
        have h9 : (2 ^ 63 - 1 : Int) / 1000000 = 9223372036854 := by decide
        rw [h9]
        omega
      exact (Int.le_ediv_iff_mul_le (by omega)).mpr this
    have h10 : (2 ^ 63 - 1 : Int) / 1000000 = 9223372036854 := by decide
    omega
  refine PySem.P.mul_str (by rw [Bool.or_eq_false_iff]; exact ⟨decide_eq_false (by omega), decide_eq_false (by omega)⟩) (fun _ _ => hb) (fun _ _ => ?_) ?_
  · unfold Builtin.Str.tooLong
    exact decide_eq_false (by omega)
  · rw [if_neg (by omega), if_neg (by rw [e1]; exact Bool.false_ne_true)]
    have hl : (repS z n).length ≤ sizeLine := by
      have e : (repS z n).length = z.length * n.toNat := by
        show (repS z n).cps.size = _
        rw [← Array.length_toList, repS_list, List.length_flatten, List.map_replicate, List.sum_replicate_nat]
        show n.toNat * z.cps.toList.length = _
        rw [Array.length_toList, Nat.mul_comm]
        rfl
      omega
    exact ⟨hl, ⟨.str (repS z n), H, I.tok _, ⟨_, rfl⟩, q⟩⟩
end
end Gd

namespace Gd
open PySem PySem.Spec PyProof.Rows L2
/-! ### the kind of a value -/
inductive Kind where
  | non | bl | int | str | lst | tup | dct | odd
  deriving DecidableEq
def Kind.name : Kind → String
  | .non => "NoneType"
  | .bl => "bool"
  | .int => "int"
  | .str => "str"
  | .lst => "list"
  | .tup => "tuple"
  | .dct => "dict"
  | .odd => "?"
def kindO : Option HO → Kind
  | some (.lst _) => .lst
  | some (.tup _) => .tup
  | some (.dK _) => .dct
  | some (.dT _) => .dct
  | _ => .odd
def kind (H : Hp) : V → Kind
  | .non => .non
  | .bl _ => .bl
  | .int _ => .int
  | .str _ => .str
  | .ref a => kindO (H a)
  | _ => .odd
abbrev Pv (H : Hp) (v : V) : Prop := kind H v ≠ .odd
/-- isinstance of such a value -/
def inst (n : String) (k : Kind) : Bool := k.name == n || (n == "int" && k == .bl)
theorem kind_ty {K : PySem.W.Frag} {H : Hp} {v : V} (h : Pv H v) : TyX K H v (.type (kind H v).name) := by
  cases v with
  | non => exact .base .non
  | bl b => exact .base (.bl b)
  | int i => exact .base (.int i)
  | str x => exact .base (.str x)
  | byt b => exact absurd rfl h
  | flt b => exact absurd rfl h
  | ty n => exact absurd rfl h
  | ref a =>
    change kindO (H a) ≠ .odd at h
    show TyX K H (.ref a) (.type (kindO (H a)).name)
    cases e : H a with
    | none => rw [e] at h; exact absurd rfl h
    | some o =>
      rw [e] at h
      cases o with
      | lst xs => exact .base (.lst e)
      | tup xs => exact .base (.tup e)
      | dK kvs => exact .base (.dK e)
      | dT kvs => exact .base (.dT e)
      | _ => exact absurd rfl h
abbrev Cn (n : String) : Prop := n = "int" ∨ n = "str" ∨ n = "bool" ∨ n = "list" ∨ n = "tuple" ∨ n = "dict"
theorem kit_kind {K : PySem.W.Frag} {H : Hp} {v : V} (h : Pv H v) {n : String} (hn : Cn n) : PySem.W.kitOne K (.type (kind H v).name) (.type n) = some (inst n (kind H v)) := by
  apply kit_ty
  revert h
  unfold Pv
  generalize kind H v = k
  intro h
  rcases hn with rfl | rfl | rfl | rfl | rfl | rfl <;> cases k <;> first | exact absurd rfl h | decide +kernel
section
variable {X : Cx}
theorem call_isk : CallR X (.builtin "isinstance") (fun xs H Q => ∃ x n, xs = [x, .ty n] ∧ Cn n ∧ Pv H x ∧ Q (.bl (inst n (kind H x))) H) := by
  intro pins s σ H xs us Q I r h
  obtain ⟨x, n, rfl, hn, hv, q⟩ := h
  exact call_isi pins s σ H _ us Q I r ⟨x, .ty n, _, _, _, rfl, .ty n, kind_ty hv, kit_kind hv hn, q⟩
/-- (list, tuple) and its like -/
theorem call_isk2 : CallR X (.builtin "isinstance") (fun xs H Q => ∃ x t n m, xs = [x, .ref t] ∧ H t = some (.tup [.ty n, .ty m]) ∧ Cn n ∧ Cn m ∧ Pv H x ∧ Q (.bl (inst n (kind H x) || inst m (kind H x))) H) := by
  intro pins s σ H xs us Q I r h
  obtain ⟨x, t, n, m, rfl, ht, hn, hm, hv, q⟩ := h
  refine call_isiT pins s σ H _ us Q I r ⟨x, t, [.ty n, .ty m], _, [.type n, .type m], _, rfl, ht, .cons (.ty n) (.cons (.ty m) .nil), kind_ty hv, ?_, q⟩
  refine kitAny_cons (kit_kind hv hn) (fun e1 => ?_) (fun e1 => ?_)
  · rw [e1, Bool.false_or]
    exact kitAny_cons (kit_kind hv hm) (fun e2 => by rw [e2]; exact kitAny_nil) fun e2 => e2
  · rw [e1]
    rfl
end
/-- an int other than True and False -/
def isInt : V → Bool
  | .int _ => true
  | _ => false
def isStr : V → Bool
  | .str _ => true
  | _ => false
theorem kind_ref {H : Hp} {a : Addr} : kind H (.ref a) = .lst ∨ kind H (.ref a) = .tup ∨ kind H (.ref a) = .dct ∨ kind H (.ref a) = .odd := by
  show kindO (H a) = _ ∨ kindO (H a) = _ ∨ kindO (H a) = _ ∨ kindO (H a) = _
  cases H a with
  | none => exact .inr (.inr (.inr rfl))
  | some o =>
    cases o <;> first | exact .inl rfl | exact .inr (.inl rfl) | exact .inr (.inr (.inl rfl)) | exact .inr (.inr (.inr rfl))
theorem isInt_kind (H : Hp) (v : V) : (inst "int" (kind H v) && !inst "bool" (kind H v)) = isInt v := by
  cases v with
  | ref a =>
    show _ = false
    rcases kind_ref (H := H) (a := a) with e | e | e | e <;> rw [e] <;> decide +kernel
  | _ => rfl
theorem isStr_kind (H : Hp) (v : V) : inst "str" (kind H v) = isStr v := by
  cases v with
  | ref a =>
    show _ = false
    rcases kind_ref (H := H) (a := a) with e | e | e | e <;> rw [e] <;> decide +kernel
  | _ => rfl
theorem kind_same {H H' : Hp} (e : Same H H') {v : V} (h : Pv H v) : kind H' v = kind H v := by
  cases v with
  | ref a =>
    change kindO (H a) ≠ .odd at h
    show kindO (H' a) = kindO (H a)
    cases q : H a with
    | none => rw [q] at h; exact absurd rfl h
    | some o => rw [e a o q]
  | _ => rfl
theorem Pv.same {H H' : Hp} (e : Same H H') {v : V} (h : Pv H v) : Pv H' v := by
  unfold Pv
  rw [kind_same e h]
  exact h
theorem isStr_iff {v : V} (h : isStr v = true) : ∃ x, v = .str x := by
  cases v <;> first | exact ⟨_, rfl⟩ | exact absurd h Bool.false_ne_true
theorem isInt_iff {v : V} (h : isInt v = true) : ∃ x, v = .int x := by
  cases v <;> first | exact ⟨_, rfl⟩ | exact absurd h Bool.false_ne_true
end Gd

namespace Gd
open PySem L2
/-! ### the law's pool of digits -/
/-- it stands at p -/
def BoxAt (H : Hp) (p : Addr) : Prop := ∃ a b c : Int, H p = some (.lst [.int a, .int b, .int c]) ∧ 0 ≤ b ∧ b < 2147483647
/-- it may have turned, nothing else has -/
def Turned (H H' : Hp) (p : Addr) : Prop := BoxAt H' p ∧ ∀ q, q ≠ p → H' q = H q
theorem Turned.refl {H : Hp} {p : Addr} (b : BoxAt H p) : Turned H H p := ⟨b, fun _ _ => rfl⟩
theorem Turned.trans {H H1 H2 : Hp} {p : Addr} (a : Turned H H1 p) (b : Turned H1 H2 p) : Turned H H2 p := ⟨b.1, fun q hq => (b.2 q hq).trans (a.2 q hq)⟩
theorem Turned.box {H H' : Hp} {p : Addr} (t : Turned H H' p) : BoxAt H' p := t.1
theorem Turned.at {H H' : Hp} {p q : Addr} {o : HO} (t : Turned H H' p) (hq : q ≠ p) (h : H q = some o) : H' q = some o := (t.2 q hq).trans h
theorem turned_upd {H : Hp} {p : Addr} {a b c : Int} (h0 : 0 ≤ b) (h1 : b < 2147483647) : Turned H (upd H p (.lst [.int a, .int b, .int c])) p :=
  ⟨⟨a, b, c, upd_same, h0, h1⟩, fun q hq => upd_ne hq⟩
theorem BoxAt.some {H : Hp} {p : Addr} (b : BoxAt H p) : ∃ o, H p = some o := let ⟨_, _, _, h, _⟩ := b; ⟨_, h⟩
theorem BoxAt.upd {H : Hp} {p q : Addr} {o : HO} (b : BoxAt H p) (hq : H q = none) : BoxAt (upd H q o) p := by
  obtain ⟨x, y, z, h, r⟩ := b
  exact ⟨x, y, z, by rw [upd_ne (ne_of_none h hq)]; exact h, r⟩
def spScr (K : PySem.W.Frag) : Sp := fun vs H Q _ => ∃ (a : Addr) (ns : List Int) (k : Int), vs = [.ref a, .int k] ∧ SqL K H a (ns.map V.int) ∧ 0 ≤ k ∧ k < 1000 ∧ ∀ z, Q (.int z) H
def spBox : Sp := fun vs H Q _ => ∃ z : Int, vs = [.int z] ∧ ∀ (p : Addr) (o : HO), H p = none → BoxAt (upd H p o) p → Q (.ref p) (upd H p o)
def spTake : Sp := fun vs H Q _ => ∃ (p : Addr) (n : Int), vs = [.ref p, .int n] ∧ BoxAt H p ∧ 0 < n ∧ n < 1000000 ∧ ∀ (d : Int) (H' : Hp), 0 ≤ d → d < n → Turned H H' p → Q (.int d) H'
/-- an item of the script -/
theorem at_script {ns : List Int} {k : Int} (h0 : 0 ≤ k) (h1 : k < ns.length) : ∃ z, atI (ns.map V.int) k = some (.int z) := by
  obtain ⟨j, rfl⟩ := Int.eq_ofNat_of_zero_le h0
  have hj : j < ns.length := by omega
  refine ⟨ns[j], atI_nat ?_⟩
  rw [List.getElem?_map, List.getElem?_eq_getElem hj]
  rfl
theorem mod_pos {i j : Int} (h : 0 < j) : 0 ≤ i % j ∧ i % j < j := ⟨Int.emod_nonneg _ (by omega), Int.emod_lt_of_pos _ h⟩
end Gd

namespace Gd
open PySem L2
theorem iteB {c : Bool} {A B : Prop} (h1 : c = true → A) (h2 : c = false → B) : if c = true then A else B := by
  cases c with
  | true => exact iteT (h1 rfl)
  | false => exact iteF (h2 rfl)
/-- what a comprehension over J asks, its list at D -/
def LcW (J : It) (g : TG) (tt : TT) (te : TE) (vs : List Nat) (σ : L2.St) (H1 : Hp) (D : Addr) (Qd : Hp → Prop) : Prop :=
  ∃ W : Nat → Nat → Hp → Prop, (∃ m, W 0 m (upd H1 D (.lst []))) ∧ ∀ i m H, W i m H →
    (J.stop i H ∧ Qd H) ∨ (J.go i H ∧ ∃ Nx : Hp → Prop, (∀ H', Nx H' → ∃ m', m' < m ∧ W (i + 1) m' H') ∧ ∀ x H', J.yld i H x H' →
      g x (wipe σ vs) H' fun σ2 H2 => wipe σ2 vs = wipe σ vs ∧ tt σ2 H2 fun b H3 => if b = true then te σ2 H3 fun y H4 => ∃ acc, H4 D = some (.lst acc) ∧ acc.length < sizeLine ∧ Nx (upd H4 D (.lst (acc ++ [y]))) else Nx H3)
theorem wipe1 (σ : L2.St) (j : Nat) (v : Option V) : wipe ((wipe σ [j]).set j v) [j] = wipe σ [j] := by
  show ((σ.set j none).set j v).set j none = σ.set j none
  rw [List.set_set, List.set_set]
theorem take_snoc {α : Type} {l : List α} {i : Nat} {x : α} (h : l[i]? = some x) : l.take (i + 1) = l.take i ++ [x] := by
  rw [List.take_succ, h]
  rfl
section
variable {K : PySem.W.Frag} {tt : TT} {te : TE} {j : Nat} {σ : L2.St} {H1 : Hp} {D : Addr} {Qd : Hp → Prop}
/-- over a text, all else as it stood -/
theorem lc_text {z : Str} (f : Nat → V) (p : Nat → Bool) (hz : z.length < sizeLine)
    (ht : ∀ c acc (Q : Bool → Hp → Prop), c ∈ z.cps.toList → Q (p c) (upd H1 D (.lst acc)) → tt ((wipe σ [j]).set j (some (.str ⟨#[c]⟩))) (upd H1 D (.lst acc)) Q)
    (he : ∀ c acc (Q : VK), c ∈ z.cps.toList → p c = true → Q (f c) (upd H1 D (.lst acc)) → te ((wipe σ [j]).set j (some (.str ⟨#[c]⟩))) (upd H1 D (.lst acc)) Q)
    (hd : Qd (upd H1 D (.lst ((z.cps.toList.filter p).map f)))) : LcW (Its z) (gName j) tt te [j] σ H1 D Qd := by
  have hl : z.cps.toList.length = z.cps.size := Array.length_toList
  refine lc_it walk_str (fun i H => H = upd H1 D (.lst (((z.cps.toList.take i).filter p).map f))) rfl (fun _ _ _ _ => trivial) ?_ ?_
  · rintro i x H H' hi e ⟨e', c, hc, rfl⟩
    subst e'
    have hc' : z.cps.toList[i]? = some c := by rw [Array.getElem?_toList]; exact hc
    have hm : c ∈ z.cps.toList := List.mem_of_getElem? hc'
    show gName j _ (wipe σ [j]) H' _
    refine ⟨wipe1 _ _ _, ?_⟩
    rw [e]
    refine ht c _ _ hm ?_
    have es := take_snoc hc'
    refine iteB (fun b => ?_) (fun b => ?_)
    · refine he c _ _ hm b ⟨_, upd_same, ?_, ?_⟩
      · rw [List.length_map]
        refine Nat.lt_of_le_of_lt (List.length_filter_le _ _) ?_
        rw [List.length_take]
        have : z.length = z.cps.size := rfl
        omega
      · rw [upd_upd, es, List.filter_append, List.map_append]
        have e1 : [c].filter p = [c] := by rw [List.filter_cons, if_pos b]; rfl
        rw [e1]
        rfl
    · rw [es, List.filter_append, List.map_append]
      have e1 : [c].filter p = [] := by rw [List.filter_cons, if_neg (by rw [b]; exact Bool.false_ne_true)]; rfl
      rw [e1]
      show upd H1 D _ = _
      rw [List.map_nil, List.append_nil]
  · intro H e
    subst e
    rw [← hl, List.take_length]
    exact hd
end
/-- order of single signs -/
theorem lt_sign (a b : Nat) : decide (([a] : List Nat) < [b]) = decide (a < b) := by
  by_cases h : a < b
  · rw [decide_eq_true h]
    exact decide_eq_true (List.Lex.rel h)
  · rw [decide_eq_false h]
    refine decide_eq_false fun z => ?_
    cases z with
    | rel h' => exact h h'
    | cons h' => cases h'
end Gd

namespace Gd
open PySem L2
/-! ### plain texts of a size -/
structure Tx (n : Nat) (x : Str) : Prop where
  len : x.length ≤ n
  asc : ∀ c ∈ x.cps.toList, c < 128
theorem len_list (x : Str) : x.length = x.cps.toList.length := (Array.length_toList).symm
theorem Tx.mono {n m : Nat} {x : Str} (t : Tx n x) (h : n ≤ m) : Tx m x := ⟨Nat.le_trans t.len h, t.asc⟩
theorem app_list (x y : Str) : (x ++ y).cps.toList = x.cps.toList ++ y.cps.toList := Array.toList_append
theorem Tx.app {n m : Nat} {x y : Str} (t : Tx n x) (u : Tx m y) : Tx (n + m) (x ++ y) := by
  refine ⟨?_, fun c hc => ?_⟩
  · have := t.len
    have := u.len
    rw [len_list, app_list, List.length_append, ← len_list, ← len_list]
    omega
  · rw [app_list] at hc
    rcases List.mem_append.mp hc with h | h
    · exact t.asc c h
    · exact u.asc c h
theorem cut_mem {z : Str} {lo hi : Option Int} {c : Nat} (h : c ∈ (cutS z lo hi).cps.toList) : c ∈ z.cps.toList := by
  have h' : c ∈ (z.cps.toList.drop (HT.sIx z.length 0 lo)).take (HT.sIx z.length z.length hi - HT.sIx z.length 0 lo) := h
  exact List.mem_of_mem_drop (List.mem_of_mem_take h')
theorem Tx.cut {n : Nat} {z : Str} (t : Tx n z) (lo hi : Option Int) : Tx n (cutS z lo hi) := ⟨Nat.le_trans (cutS_length z lo hi) t.len, fun c hc => t.asc c (cut_mem hc)⟩
theorem Tx.sign {n : Nat} {z : Str} (t : Tx n z) {c : Nat} (h : c ∈ z.cps.toList) : Tx 1 ⟨#[c]⟩ := ⟨Nat.le_refl _, fun d hd => by
  have : d = c := by simpa using hd
  rw [this]
  exact t.asc c h⟩
/-- a written one: by decide +kernel -/
theorem Tx.of {n : Nat} {x : Str} (h : (decide (x.length ≤ n) && x.cps.toList.all fun c => decide (c < 128)) = true) : Tx n x := by
  rw [Bool.and_eq_true, decide_eq_true_eq, List.all_eq_true] at h
  exact ⟨h.1, fun c hc => of_decide_eq_true (h.2 c hc)⟩
theorem Tx.big {n : Nat} {x : Str} (t : Tx n x) : ∀ c ∈ x.cps.toList, c < 16 ^ 8 := fun c hc => Nat.lt_trans (t.asc c hc) (by decide)
theorem atI_mem {α : Type} {l : List α} {i : Int} {v : α} (h : atI l i = some v) : v ∈ l := by
  unfold atI at h
  cases e : ixN l.length i with
  | none => rw [e] at h; exact nomatch h
  | some j =>
    rw [e] at h
    exact List.mem_of_getElem? h
/-- an item that all of them are like -/
theorem atI_all {α : Type} {l : List α} {p : α → Prop} (h : ∀ v ∈ l, p v) {d : Int} (h0 : 0 ≤ d) (h1 : d < l.length) : ∃ v, atI l d = some v ∧ p v := by
  obtain ⟨j, rfl⟩ := Int.eq_ofNat_of_zero_le h0
  have hj : j < l.length := by omega
  exact ⟨l[j], atI_nat (List.getElem?_eq_getElem hj), h _ (List.getElem_mem hj)⟩
/-- a sign of a text -/
theorem atI_sign {n : Nat} {z : Str} (t : Tx n z) {d : Int} (h0 : 0 ≤ d) (h1 : d < z.length) : ∃ c, atI z.cps.toList d = some c ∧ Tx 1 ⟨#[c]⟩ ∧ c ∈ z.cps.toList := by
  obtain ⟨c, h, hm⟩ := atI_all (l := z.cps.toList) (p := fun c => c ∈ z.cps.toList) (fun _ h => h) h0 (by rw [← len_list]; exact h1)
  exact ⟨c, h, t.sign hm, hm⟩
/-! ### parts and equality of texts -/
theorem str_ext {x y : Str} (h : x.cps.toList = y.cps.toList) : x = y := by
  obtain ⟨a⟩ := x
  obtain ⟨b⟩ := y
  exact congrArg Str.mk (Array.toList_inj.mp h)
theorem str_eq (x y : Str) : decide (V.str x = V.str y) = decide (x.cps.toList = y.cps.toList) :=
  decide_eq_decide.mpr ⟨fun z => by rw [V.str.injEq] at z; rw [z], fun z => by rw [str_ext z]⟩
theorem cut_take (x : Str) (k : Nat) : (cutS x none (some (k : Int))).cps.toList = x.cps.toList.take k := by
  show (x.cps.toList.drop (HT.sIx x.length 0 none)).take (HT.sIx x.length x.length (some (k : Int)) - HT.sIx x.length 0 none) = _
  rw [HT.sIx_none, HT.sIx_nat, List.drop_zero, Nat.sub_zero, len_list]
  rcases Nat.le_total k x.cps.toList.length with h | h
  · rw [Nat.min_eq_left h]
  · rw [Nat.min_eq_right h, List.take_length, List.take_of_length_le h]
theorem cut_drop (x : Str) (k : Nat) : (cutS x (some (k : Int)) none).cps.toList = x.cps.toList.drop k := by
  show (x.cps.toList.drop (HT.sIx x.length 0 (some (k : Int)))).take (HT.sIx x.length x.length none - HT.sIx x.length 0 (some (k : Int))) = _
  rw [HT.sIx_none, HT.sIx_nat, len_list]
  rcases Nat.le_total k x.cps.toList.length with h | h
  · rw [Nat.min_eq_left h, List.take_of_length_le (by rw [List.length_drop]; exact Nat.le_refl _)]
  · rw [Nat.min_eq_right h, Nat.sub_self, List.take_zero, List.drop_of_length_le h]
/-! ### joined -/
theorem join_str (sep : Str) (l : List Str) : Txt.join sep l = Str.join sep l := eq_of_beq (PyProof.Rows.join_plain_closes sep l)
theorem join_len (sep : Str) : ∀ l : List Str, (Str.join sep l).length ≤ (l.map (·.length)).sum + l.length * sep.length
  | [] => Nat.zero_le _
  | [x] => by
    show x.length ≤ _
    simp
  | x :: y :: r => by
    have ih := join_len sep (y :: r)
    show (x ++ sep ++ Str.join sep (y :: r)).length ≤ _
    rw [len_list, app_list, app_list, List.length_append, List.length_append, ← len_list, ← len_list, ← len_list, List.map_cons, List.sum_cons, List.length_cons, Nat.succ_mul]
    omega
theorem join_mem (sep : Str) {c : Nat} : ∀ {l : List Str}, c ∈ (Str.join sep l).cps.toList → c ∈ sep.cps.toList ∨ ∃ y ∈ l, c ∈ y.cps.toList
  | [], h => nomatch (show c ∈ ([] : List Nat) from h)
  | [x], h => .inr ⟨x, List.mem_cons_self, h⟩
  | x :: y :: r, h => by
    have h' : c ∈ (x ++ sep ++ Str.join sep (y :: r)).cps.toList := h
    rw [app_list, app_list, List.mem_append, List.mem_append] at h'
    rcases h' with (h | h) | h
    · exact .inr ⟨x, List.mem_cons_self, h⟩
    · exact .inl h
    · rcases join_mem sep h with h | ⟨z, hz, h⟩
      · exact .inl h
      · exact .inr ⟨z, List.mem_cons_of_mem _ hz, h⟩
theorem join_empty_len : ∀ l : List Str, (Str.join "" l).length = (l.map (·.length)).sum
  | [] => rfl
  | [x] => by
    show x.length = _
    simp
  | x :: y :: r => by
    have ih := join_empty_len (y :: r)
    show (x ++ "" ++ Str.join "" (y :: r)).length = _
    have e : (("" : String) : Str).cps.toList = [] := by decide +kernel
    rw [len_list, app_list, app_list, e, List.append_nil, List.length_append, ← len_list, ← len_list, List.map_cons, List.sum_cons, ih]
theorem sum_le {l : List Nat} {n : Nat} (h : ∀ x ∈ l, x ≤ n) : l.sum ≤ l.length * n := by
  induction l with
  | nil => exact Nat.zero_le _
  | cons a l ih =>
    have := ih fun x hx => h x (List.mem_cons_of_mem _ hx)
    have := h a List.mem_cons_self
    rw [List.sum_cons, List.length_cons, Nat.succ_mul]
    omega
theorem Tx.join {n m k : Nat} {sep : Str} {l : List Str} (s : Tx m sep) (h : ∀ y ∈ l, Tx n y) (hl : l.length ≤ k) : Tx (k * n + k * m) (Txt.join sep l) := by
  rw [join_str]
  refine ⟨?_, fun c hc => ?_⟩
  · have h1 := join_len sep l
    have h2 : (l.map (·.length)).sum ≤ l.length * n := by
      have := sum_le (l := l.map (·.length)) (n := n) fun x hx => by
        obtain ⟨y, hy, rfl⟩ := List.mem_map.mp hx
        exact (h y hy).len
      rw [List.length_map] at this
      exact this
    have h3 : l.length * n ≤ k * n := Nat.mul_le_mul_right _ hl
    have h4 : l.length * sep.length ≤ k * m := Nat.mul_le_mul hl s.len
    omega
  · rcases join_mem sep hc with h' | ⟨y, hy, h'⟩
    · exact s.asc c h'
    · exact (h y hy).asc c h'
/-! ### all but the pool is kept -/
def Kept (H H' : Hp) (p : Addr) : Prop := BoxAt H' p ∧ ∀ q o, q ≠ p → H q = some o → H' q = some o
theorem Kept.refl {H : Hp} {p : Addr} (b : BoxAt H p) : Kept H H p := ⟨b, fun _ _ _ h => h⟩
theorem Kept.trans {H H1 H2 : Hp} {p : Addr} (a : Kept H H1 p) (b : Kept H1 H2 p) : Kept H H2 p := ⟨b.1, fun q o hq h => b.2 q o hq (a.2 q o hq h)⟩
theorem Kept.box {H H' : Hp} {p : Addr} (k : Kept H H' p) : BoxAt H' p := k.1
theorem Turned.kept {H H' : Hp} {p : Addr} (t : Turned H H' p) : Kept H H' p := ⟨t.1, fun q o hq h => t.at hq h⟩
theorem Kept.new {H H' : Hp} {p l : Addr} {o : HO} (k : Kept H H' p) (h : H' l = none) : Kept H (upd H' l o) p :=
  ⟨k.1.upd h, fun q u hq hu => by rw [upd_ne (ne_of_none (k.2 q u hq hu) h)]; exact k.2 q u hq hu⟩
theorem Kept.turn {H H1 H2 : Hp} {p : Addr} (k : Kept H H1 p) (t : Turned H1 H2 p) : Kept H H2 p := k.trans t.kept
theorem Kept.same {H H1 H2 : Hp} {p : Addr} (k : Kept H H1 p) (s : Same H1 H2) : Kept H H2 p := by
  obtain ⟨⟨a, b, c, h, r⟩, f⟩ := k
  exact ⟨⟨a, b, c, s _ _ h, r⟩, fun q o hq hh => s _ _ (f q o hq hh)⟩
/-- fresh behind is fresh ahead -/
theorem Kept.free {H H' : Hp} {p q : Addr} (k : Kept H H' p) (hb : BoxAt H p) (h : H' q = none) : H q = none := by
  cases e : H q with
  | none => rfl
  | some o =>
    by_cases hq : q = p
    · subst hq
      obtain ⟨_, hh⟩ := k.1.some
      rw [hh] at h
      exact nomatch h
    · rw [k.2 q o hq e] at h
      exact nomatch h
theorem Kept.ne {H : Hp} {p q : Addr} (b : BoxAt H p) (h : H q = none) : q ≠ p := by
  rintro rfl
  obtain ⟨_, hh⟩ := b.some
  rw [hh] at h
  exact nomatch h
theorem Kept.put {H H' : Hp} {p D : Addr} {o : HO} (k : Kept H H' p) (hb : BoxAt H p) (h : H D = none) : Kept H (upd H' D o) p := by
  have hne : D ≠ p := Kept.ne hb h
  obtain ⟨⟨a, b, c, hh, r⟩, f⟩ := k
  exact ⟨⟨a, b, c, by rw [upd_ne hne.symm]; exact hh, r⟩, fun q u hq hu => by rw [upd_ne (ne_of_none hu h)]; exact f q u hq hu⟩
/-- no test: the turn gives -/
theorem yes_go {σ : L2.St} {H : Hp} {A B : Hp → Prop} (h : A H) : tYes σ H (fun b H' => if b = true then A H' else B H') := by
  show if true = true then A H else B H
  exact iteT h
/-! a word between a statement and what follows -/
def tMid (t u : TS) : TS := fun D σ H => ∃ M : L2.St → Hp → Prop, t { D with nx := M } σ H ∧ ∀ σ' H', M σ' H' → u D σ' H'
theorem pss_mid {X : Cx} {st : Stmt} {rest : List Stmt} {t u : TS} (h1 : PS X st t) (h2 : PSs X rest u) : PSs X (st :: rest) (tMid t u) := by
  refine ⟨fun pins s σ H D I ⟨M, hm, hu⟩ => ?_⟩
  refine wpAny_execs_cons (thn (h1.run pins s σ H { D with nx := M } I hm) fun f s1 q => ?_)
  match f, q with
  | .next, ⟨σ', H', I', q⟩ => exact h2.run pins s1 σ' H' D I' (hu σ' H' q)
  | .ret _, q => exact q
  | .brk, q => exact q
  | .cont, q => exact q
end Gd

namespace Gd
open PySem L2
/-- a list of signs == [] -/
theorem signs_nil {K : PySem.W.Frag} {H : Hp} {D D2 : Addr} {bs : List Nat} (h1 : H D = some (.lst (bs.map fun c => V.str ⟨#[c]⟩))) (h2 : H D2 = some (.lst [])) (asc : ∀ c ∈ bs, c < 128) {Q : VK} (q : Q (.bl bs.isEmpty) H) : rEqD K (.ref D) (.ref D2) H Q := by
  have dp : ∀ l : List Nat, DpAll K H (l.map fun c => V.str ⟨#[c]⟩) (l.map fun c => PyData.str ⟨#[c]⟩) := by
    intro l
    induction l with
    | nil => exact .nil
    | cons c l ih => exact .cons (.str _) ih
  have shp : ∀ l : List Nat, (∀ c ∈ l, c < 128) → SeqAt.shaped (.list (l.map fun c => PyData.str ⟨#[c]⟩)) = true := by
    intro l hl
    unfold SeqAt.shaped
    have h1 : ∀ l : List Nat, (∀ c ∈ l, c < 128) → PyData.canLayAll0 (l.map fun c => PyData.str ⟨#[c]⟩) = true := by
      intro l
      induction l with
      | nil => exact fun _ => rfl
      | cons c l ih =>
        intro h
        show (PyData.canLay0 (.str ⟨#[c]⟩) && PyData.canLayAll0 (l.map fun c => PyData.str ⟨#[c]⟩)) = true
        rw [ih fun x hx => h x (List.mem_cons_of_mem _ hx), Bool.and_true]
        show (#[c] : Array Nat).all (· < 0x110000) = true
        have := h c List.mem_cons_self
        simp
        omega
    have h2 : ∀ l : List Nat, PyData.depthAll (l.map fun c => PyData.str ⟨#[c]⟩) = 0 := by
      intro l
      induction l with
      | nil => rfl
      | cons c l ih =>
        show max 0 (PyData.depthAll (l.map fun c => PyData.str ⟨#[c]⟩)) = 0
        rw [ih]
        rfl
    rw [Bool.and_eq_true]
    refine ⟨h1 l hl, decide_eq_true ?_⟩
    show PyData.depthAll (l.map fun c => PyData.str ⟨#[c]⟩) + 1 ≤ 64
    rw [h2]
    decide
  refine ⟨.list (bs.map fun c => PyData.str ⟨#[c]⟩), .list [], .lst (SqL.of h1) (dp bs), .lst (SqL.of h2) .nil, shp bs asc, by decide, ?_⟩
  have eqv : PyData.eqv (.list (bs.map fun c => PyData.str ⟨#[c]⟩)) (.list []) = bs.isEmpty := by
    cases bs <;> rfl
  rw [eqv]
  exact q
/-! ### small letters -/
def low (c : Nat) : Bool := decide (97 ≤ c) && decide (c ≤ 122)
theorem low_fst (c : Nat) : (!decide ((({ cps := #[c] } : Str)).cps.toList < (("a" : String) : Str).cps.toList)) = decide (97 ≤ c) := by
  show (!decide (([c] : List Nat) < [97])) = _
  rw [lt_sign, ← decide_not]
  exact decide_eq_decide.mpr (by omega)
theorem low_snd (c : Nat) : (!decide ((("z" : String) : Str).cps.toList < (({ cps := #[c] } : Str)).cps.toList)) = decide (c ≤ 122) := by
  show (!decide (([122] : List Nat) < [c])) = _
  rw [lt_sign, ← decide_not]
  exact decide_eq_decide.mpr (by omega)
end Gd

namespace Gd
open PySem PySem.Spec PyProof.Rows L2
theorem repS_same {z : Str} {n : Int} (h : n = 1 ∨ z.length = 0) : repS z n = z := by
  refine str_ext ?_
  rw [repS_list]
  rcases h with rfl | h
  · show (List.replicate 1 z.cps.toList).flatten = _
    simp
  · have e : z.cps.toList = [] := by
      rw [← List.length_eq_zero_iff, ← len_list]
      exact h
    rw [e]
    simp
theorem Tx.reps {m : Nat} {x : Str} (t : Tx m x) (n : Int) : Tx (n.toNat * m) (repS x n) := by
  refine ⟨?_, fun c hc => ?_⟩
  · rw [len_list, repS_list, List.length_flatten, List.map_replicate]
    have h1 := sum_le (l := List.replicate n.toNat x.cps.toList.length) (n := m) fun k hk => by
      rw [(List.mem_replicate.mp hk).2, ← len_list]
      exact t.len
    rw [List.length_replicate] at h1
    exact h1
  · rw [repS_list] at hc
    obtain ⟨l, hl, hc⟩ := List.mem_flatten.mp hc
    rw [(List.mem_replicate.mp hl).2] at hc
    exact t.asc c hc
section
variable {X : Cx}
theorem op_repA : OpR X (binaryOp .Mult) (fun x y H Q => ∃ z n, x = .str z ∧ y = .int n ∧ 1 ≤ n ∧ n < 1000000 ∧ z.length * n.toNat ≤ sizeLine ∧ Q (.str (repS z n)) H) := by
  intro pins s σ H x y v u Q I rx ry h
  obtain ⟨z, n, rfl, rfl, h1, h2, hz, q⟩ := h
  by_cases hs : n = 1 ∨ z.length = 0
  · rw [repS_same hs] at q
    obtain ⟨t, rfl⟩ := rx
    obtain ⟨t', rfl⟩ := ry
    have e1 : (n == 1 || z.length == 0) = true := by
      rw [Bool.or_eq_true]
      rcases hs with h | h
      · exact .inl (beq_iff_eq.mpr h)
      · exact .inr (beq_iff_eq.mpr h)
    have hb : ¬ (z.length : Int) > (2 ^ 63 - 1) / n := by
      intro c
      have hs := hz
      rw [sizeLine_eq] at hs
      have h3 : (z.length : Int) * n ≤ 16777216 := by
        have h4 : ((z.length * n.toNat : Nat) : Int) ≤ 16777216 := Int.ofNat_le.mpr hs
        rw [Int.natCast_mul, Int.toNat_of_nonneg (by omega)] at h4
        exact h4
      have h5 : (z.length : Int) ≤ 16777216 := by
        have h6 : (0 : Int) ≤ z.length := by omega
        have h7 : (z.length : Int) * 1 ≤ (z.length : Int) * n := Int.mul_le_mul_of_nonneg_left (by omega) (by omega)
        omega
      have h8 : (2 ^ 63 - 1 : Int) / n ≥ (2 ^ 63 - 1) / 1000000 := by
        have : (2 ^ 63 - 1 : Int) / 1000000 * n ≤ (2 ^ 63 - 1) := by
          have h9 : (2 ^ 63 - 1 : Int) / 1000000 = 9223372036854 := by decide
          rw [h9]
          omega
        exact (Int.le_ediv_iff_mul_le (by omega)).mpr this
      have h10 : (2 ^ 63 - 1 : Int) / 1000000 = 9223372036854 := by decide
      omega
    refine PySem.P.mul_str (by rw [Bool.or_eq_false_iff]; exact ⟨decide_eq_false (by omega), decide_eq_false (by omega)⟩) (fun _ _ => hb) (fun _ _ => ?_) ?_
    · unfold Builtin.Str.tooLong
      exact decide_eq_false (by omega)
    · rw [if_neg (by omega), if_pos e1]
      first
        | exact ⟨.str z, H, I, ⟨t, rfl⟩, q⟩
        | (unfold Made.post; exact ⟨.str z, H, I, ⟨t, rfl⟩, q⟩)
  · refine op_repS pins s σ H _ _ v u Q I rx ry ⟨z, n, rfl, rfl, ?_, h2, fun z => hs (.inr z), hz, q⟩
    have : n ≠ 1 := fun z => hs (.inl z)
    omega
end
end Gd

namespace Gd
open PySem L2
/-! ### what has come since -/
def newer (H H' : Hp) : Hp := fun a => match H a with
  | none => H' a
  | some _ => none
section
variable {H H' H'' : Hp} {a : Addr} {o : HO}
theorem newer_at (h : H a = none) (h' : H' a = some o) : newer H H' a = some o := by
  unfold newer
  rw [h]
  exact h'
theorem newer_of (h : newer H H' a = some o) : H a = none ∧ H' a = some o := by
  unfold newer at h
  cases e : H a with
  | none => rw [e] at h; exact ⟨rfl, h⟩
  | some u => rw [e] at h; exact nomatch h
theorem newer_same : Same (newer H H') H' := fun _ _ h => (newer_of h).2
theorem newer_go (k : ∀ b u, H b = none → H' b = some u → H'' b = some u) : Same (newer H H') (newer H H'') := fun b u h => newer_at (newer_of h).1 (k b u (newer_of h).1 (newer_of h).2)
end
/-! ### data of a depth -/
def Wd : Nat → Nat
  | 0 => 40000
  | n + 1 => 4 * Wd n + 1000
def Item (K : PySem.W.Frag) (G : Hp) (n : Nat) (v : V) : Prop := ∃ d, Da K G v d ∧ Ok1 d ∧ wid d ≤ Wd n ∧ d.depth ≤ n
section
variable {K : PySem.W.Frag} {G G' : Hp} {n : Nat}
theorem Item.same {v : V} (s : Same G G') : Item K G n v → Item K G' n v
  | ⟨d, h, r⟩ => ⟨d, h.same s, r⟩
theorem wd_pos : ∀ n, 1000 ≤ Wd n
  | 0 => by decide
  | n + 1 => by
    show 1000 ≤ 4 * Wd n + 1000
    omega
theorem Item.up {v : V} : Item K G n v → Item K G (n + 1) v
  | ⟨d, h, o, w, p⟩ => ⟨d, h, o, by
    show wid d ≤ 4 * Wd n + 1000
    omega, by omega⟩
theorem items : ∀ {ys : List V}, (∀ y ∈ ys, Item K G n y) → ∃ ds, DaL K G ys ds ∧ OkL ds ∧ widL ds ≤ ys.length * (Wd n + 2) ∧ PyData.depthAll ds ≤ n
  | [], _ => ⟨[], .nil, trivial, Nat.zero_le _, Nat.zero_le _⟩
  | y :: ys, h => by
    obtain ⟨d, h1, h2, h3, h4⟩ := h y List.mem_cons_self
    obtain ⟨ds, g1, g2, g3, g4⟩ := items (ys := ys) fun x hx => h x (List.mem_cons_of_mem _ hx)
    refine ⟨d :: ds, .cons h1 g1, ⟨h2, g2⟩, ?_, ?_⟩
    · show wid d + 2 + widL ds ≤ (ys.length + 1) * (Wd n + 2)
      rw [Nat.succ_mul]
      omega
    · show max d.depth (PyData.depthAll ds) ≤ n
      omega
theorem three {ys : List V} (hl : ys.length ≤ 3) : ys.length * (Wd n + 2) ≤ 3 * (Wd n + 2) := Nat.mul_le_mul_right _ hl
theorem item_lst {a : Addr} {ys : List V} (h : G a = some (.lst ys)) (hl : ys.length ≤ 3) (hy : ∀ y ∈ ys, Item K G n y) : Item K G (n + 1) (.ref a) := by
  obtain ⟨ds, g1, g2, g3, g4⟩ := items hy
  have := three (n := n) hl
  exact ⟨.list ds, .lst h g1, g2, by show widL ds + 2 ≤ 4 * Wd n + 1000; have := wd_pos n; omega, by show PyData.depthAll ds + 1 ≤ n + 1; omega⟩
theorem item_tup {a : Addr} {ys : List V} (h : G a = some (.tup ys)) (hl : ys.length ≤ 3) (hy : ∀ y ∈ ys, Item K G n y) : Item K G (n + 1) (.ref a) := by
  obtain ⟨ds, g1, g2, g3, g4⟩ := items hy
  have := three (n := n) hl
  exact ⟨.tuple ds, .tup (SqT.of h) g1, g2, by show widL ds + 3 ≤ 4 * Wd n + 1000; have := wd_pos n; omega, by show PyData.depthAll ds + 1 ≤ n + 1; omega⟩
/-- a small key -/
def SmK : Key → Prop
  | .inl _ => False
  | .inr x => Tx 5 x
theorem pairs : ∀ {kvs : List (Key × V)}, (∀ kv ∈ kvs, SmK kv.1 ∧ Item K G n kv.2) →
    ∃ ds, DaL K G (kvs.map (·.2)) ds ∧ OkK ((kvs.map fun p => kD p.1).zip ds) ∧ widK ((kvs.map fun p => kD p.1).zip ds) ≤ kvs.length * (Wd n + 60) ∧ PyData.depthKv ((kvs.map fun p => kD p.1).zip ds) ≤ n
  | [], _ => ⟨[], .nil, trivial, Nat.zero_le _, Nat.zero_le _⟩
  | kv :: kvs, h => by
    obtain ⟨hk, d, h1, h2, h3, h4⟩ := h kv List.mem_cons_self
    obtain ⟨ds, g1, g2, g3, g4⟩ := pairs (kvs := kvs) fun x hx => h x (List.mem_cons_of_mem _ hx)
    obtain ⟨k, v⟩ := kv
    cases k with
    | inl i => exact hk.elim
    | inr x =>
      have tx : Tx 5 x := hk
      have := tx.len
      refine ⟨d :: ds, .cons h1 g1, ⟨tx.big, h2, g2⟩, ?_, ?_⟩
      · show (10 * x.length + 2) + wid d + 4 + widK ((kvs.map fun p => kD p.1).zip ds) ≤ (kvs.length + 1) * (Wd n + 60)
        have e : (kvs.length + 1) * (Wd n + 60) = kvs.length * (Wd n + 60) + (Wd n + 60) := Nat.succ_mul _ _
        omega
      · show max (max 0 d.depth) (PyData.depthKv ((kvs.map fun p => kD p.1).zip ds)) ≤ n
        omega
theorem item_dct {a : Addr} {kvs : List (Key × V)} (h : G a = some (.dK kvs)) (hl : kvs.length ≤ 3) (hy : ∀ kv ∈ kvs, SmK kv.1 ∧ Item K G n kv.2) : Item K G (n + 1) (.ref a) := by
  obtain ⟨ds, g1, g2, g3, g4⟩ := pairs hy
  have : kvs.length * (Wd n + 60) ≤ 3 * (Wd n + 60) := Nat.mul_le_mul_right _ hl
  exact ⟨.dict _, .dct h g1, g2, by show widK _ + 2 ≤ 4 * Wd n + 1000; have := wd_pos n; omega, by show PyData.depthKv _ + 1 ≤ n + 1; omega⟩
end
theorem put_all {P : Key → Prop} {R : V → Prop} {acc : List (Key × V)} {k : Key} {v : V} (h : ∀ kv ∈ acc, P kv.1 ∧ R kv.2) (hk : P k) (hv : R v) : ∀ kv ∈ putK acc k v, P kv.1 ∧ R kv.2 := by
  intro kv hm
  unfold putK at hm
  split at hm
  · obtain ⟨u, hu, rfl⟩ := List.mem_map.mp hm
    split
    · exact ⟨(h u hu).1, hv⟩
    · exact h u hu
  · rcases List.mem_append.mp hm with e | e
    · exact h kv e
    · have : kv = (k, v) := by simpa using e
      rw [this]
      exact ⟨hk, hv⟩
theorem merge_all {P : Key → Prop} {R : V → Prop} : ∀ {more acc : List (Key × V)}, (∀ kv ∈ acc, P kv.1 ∧ R kv.2) → (∀ kv ∈ more, P kv.1 ∧ R kv.2) → ∀ kv ∈ mergeK acc more, P kv.1 ∧ R kv.2
  | [], acc, h, _ => h
  | m :: r, acc, h, hm => by
    show ∀ kv ∈ mergeK (putK acc m.1 m.2) r, _
    have := hm m List.mem_cons_self
    exact merge_all (put_all h this.1 this.2) fun x hx => hm x (List.mem_cons_of_mem _ hx)
theorem key_small {i : Nat} (h : i < 4) : Tx 5 (((toString ((i : Nat) : Int) : String)) : Str) := by
  have : i = 0 ∨ i = 1 ∨ i = 2 ∨ i = 3 := by omega
  rcases this with rfl | rfl | rfl | rfl <;> exact .of (by decide +kernel)
end Gd

namespace Gd
open PySem L2
/-! ### trees of expressions -/
inductive Tr where
  | none | empty | letter (c : Nat) | name (x : Str) | sgn (k : Fin 3) (t : Tr) | seq (l : List Tr) | cho (l : List Tr)
abbrev sNone : Str := "none"
abbrev sEmpty : Str := "empty"
abbrev sLetter : Str := "letter"
abbrev sName : Str := "name"
abbrev sSeq : Str := "sequence"
abbrev sCho : Str := "choice"
def sSgn (k : Fin 3) : Str := if k = 0 then "many" else if k = 1 then "some" else "maybe"
def Tr.kind : Tr → Str
  | .none => sNone
  | .empty => sEmpty
  | .letter _ => sLetter
  | .name _ => sName
  | .sgn k _ => sSgn k
  | .seq _ => sSeq
  | .cho _ => sCho
mutual
def Tr.height : Tr → Nat
  | .none => 1
  | .empty => 1
  | .letter _ => 1
  | .name _ => 1
  | .sgn _ t => t.height + 1
  | .seq l => heights l + 1
  | .cho l => heights l + 1
def heights : List Tr → Nat
  | [] => 1
  | t :: l => max t.height (heights l)
end
mutual
/-- well formed -/
def Tr.Wf : Tr → Prop
  | .none => True
  | .empty => True
  | .letter c => low c = true
  | .name x => Tx 8 x ∧ 1 ≤ x.length ∧ x.cps.toList.all low = true
  | .sgn _ t => t.Wf
  | .seq l => 2 ≤ l.length ∧ l.length ≤ 100000 ∧ Wfs l
  | .cho l => 2 ≤ l.length ∧ l.length ≤ 100000 ∧ Wfs l
def Wfs : List Tr → Prop
  | [] => True
  | t :: l => t.Wf ∧ Wfs l
end
mutual
inductive TrAt (H : Hp) : V → Tr → Prop
  | none {a : Addr} : H a = some (.tup [.str sNone]) → TrAt H (.ref a) .none
  | empty {a : Addr} : H a = some (.tup [.str sEmpty]) → TrAt H (.ref a) .empty
  | letter {a : Addr} {c : Nat} : H a = some (.tup [.str sLetter, .str ⟨#[c]⟩]) → TrAt H (.ref a) (.letter c)
  | name {a : Addr} {x : Str} : H a = some (.tup [.str sName, .str x]) → TrAt H (.ref a) (.name x)
  | sgn {a : Addr} {k : Fin 3} {v : V} {t : Tr} : H a = some (.tup [.str (sSgn k), v]) → TrAt H v t → TrAt H (.ref a) (.sgn k t)
  | seq {a b : Addr} {vs : List V} {ts : List Tr} : H a = some (.tup [.str sSeq, .ref b]) → H b = some (.lst vs) → TrsAt H vs ts → TrAt H (.ref a) (.seq ts)
  | cho {a b : Addr} {vs : List V} {ts : List Tr} : H a = some (.tup [.str sCho, .ref b]) → H b = some (.lst vs) → TrsAt H vs ts → TrAt H (.ref a) (.cho ts)
inductive TrsAt (H : Hp) : List V → List Tr → Prop
  | nil : TrsAt H [] []
  | cons {v : V} {vs : List V} {t : Tr} {ts : List Tr} : TrAt H v t → TrsAt H vs ts → TrsAt H (v :: vs) (t :: ts)
end
section
variable {H H' : Hp}
mutual
theorem TrAt.same (e : Same H H') : ∀ {v : V} {t : Tr}, TrAt H v t → TrAt H' v t
  | _, _, .none h => .none (e _ _ h)
  | _, _, .empty h => .empty (e _ _ h)
  | _, _, .letter h => .letter (e _ _ h)
  | _, _, .name h => .name (e _ _ h)
  | _, _, .sgn h t => .sgn (e _ _ h) (TrAt.same e t)
  | _, _, .seq h g t => .seq (e _ _ h) (e _ _ g) (TrsAt.same e t)
  | _, _, .cho h g t => .cho (e _ _ h) (e _ _ g) (TrsAt.same e t)
theorem TrsAt.same (e : Same H H') : ∀ {vs : List V} {ts : List Tr}, TrsAt H vs ts → TrsAt H' vs ts
  | _, _, .nil => .nil
  | _, _, .cons h r => .cons (TrAt.same e h) (TrsAt.same e r)
end
theorem TrsAt.length : ∀ {vs : List V} {ts : List Tr}, TrsAt H vs ts → vs.length = ts.length
  | _, _, .nil => rfl
  | _, _, .cons _ r => by rw [List.length_cons, List.length_cons, r.length]
/-- a part -/
theorem TrsAt.at : ∀ {vs : List V} {ts : List Tr} {i : Nat} {v : V}, TrsAt H vs ts → vs[i]? = some v → ∃ t, ts[i]? = some t ∧ TrAt H v t
  | _, _, 0, _, .cons h _, e => by
    injection e with e
    subst e
    exact ⟨_, rfl, h⟩
  | _, _, i + 1, _, .cons _ r, e => TrsAt.at (i := i) r e
end
/-- its pair of kind and part, as the program reads it -/
theorem TrAt.tup {H : Hp} {v : V} {t : Tr} (h : TrAt H v t) : ∃ a xs, v = .ref a ∧ H a = some (.tup (.str t.kind :: xs)) := by
  cases h with
  | none h => exact ⟨_, _, rfl, h⟩
  | empty h => exact ⟨_, _, rfl, h⟩
  | letter h => exact ⟨_, _, rfl, h⟩
  | name h => exact ⟨_, _, rfl, h⟩
  | sgn h _ => exact ⟨_, _, rfl, h⟩
  | seq h _ _ => exact ⟨_, _, rfl, h⟩
  | cho h _ _ => exact ⟨_, _, rfl, h⟩
theorem height_pos : ∀ t : Tr, 1 ≤ t.height
  | .none => Nat.le_refl _
  | .empty => Nat.le_refl _
  | .letter _ => Nat.le_refl _
  | .name _ => Nat.le_refl _
  | .sgn _ t => by show 1 ≤ t.height + 1; omega
  | .seq l => by show 1 ≤ heights l + 1; omega
  | .cho l => by show 1 ≤ heights l + 1; omega
theorem heights_at : ∀ {l : List Tr} {i : Nat} {t : Tr}, l[i]? = some t → t.height ≤ heights l
  | [], _, _, e => nomatch e
  | u :: l, 0, t, e => by
    injection e with e
    subst e
    exact Nat.le_max_left _ _
  | u :: l, i + 1, t, e => Nat.le_trans (heights_at (l := l) (i := i) e) (Nat.le_max_right _ _)
theorem wfs_at : ∀ {l : List Tr} {i : Nat} {t : Tr}, Wfs l → l[i]? = some t → t.Wf
  | [], _, _, _, e => nomatch e
  | u :: l, 0, t, h, e => by
    injection e with e
    subst e
    exact h.1
  | u :: l, i + 1, t, h, e => wfs_at (l := l) (i := i) h.2 e
end Gd

namespace Gd
open PySem PySem.Spec PyProof.Rows L2
/-! ### exceptions held as values -/
/-- one of the class C, its dict at d, stands at e -/
def ExV (C d e : Addr) : HO := .ext fun h => ∃ (oe : Obj) (vs : Array Value), h.get? e = some oe ∧ oe.cls = .ref C ∧ oe.dict = some d ∧ oe.data = .fields vs
theorem exV_ok {P : Program} {w : World} {H : Hp} {h : Heap} {C d e : Addr} {oe : Obj} {vs : Array Value} (h1 : h.get? e = some oe) (h2 : oe.cls = .ref C) (h3 : oe.dict = some d) (h4 : oe.data = .fields vs) : ObjOk P w H h e (ExV C d e) :=
  ⟨⟨oe, vs, h1, h2, h3, h4⟩, ⟨oe, h1⟩, fun _ _ ⟨o, v, a, b, c, e'⟩ k => ⟨o, v, k _ a, b, c, e'⟩⟩
def IsEx (C : Addr) (H : Hp) (v : V) : Prop := ∃ e d fs, v = .ref e ∧ H e = some (ExV C d e) ∧ H d = some (.xd fs)
theorem IsEx.same {C : Addr} {H H' : Hp} {v : V} (s : Same H H') : IsEx C H v → IsEx C H' v
  | ⟨e, d, fs, a, b, c⟩ => ⟨e, d, fs, a, s _ _ b, s _ _ c⟩
theorem IsEx.kind {C : Addr} {H : Hp} {v : V} : IsEx C H v → kind H v = .odd
  | ⟨e, d, fs, a, b, c⟩ => by
    subst a
    show kindO (H e) = .odd
    rw [b]
    rfl
/-- what isinstance asks of the class -/
structure ExcT (K : PySem.W.Frag) (C : Addr) : Prop where
  hcl : (PySem.W.clsIn K C).isSome = true
  hga : PySem.W.findIn K (.ref C) "__getattribute__" = some (some (.builtin "BaseException.__getattribute__"))
  hgt : PySem.W.findIn K (.ref C) "__getattr__" = some none
  hsub : PySem.W.subIn K (.ref C) (.type "BaseException") = some true
  ha : PySem.W.findIn K (.ref C) "__class__" = some (some (.builtin "object.__class__"))
  hn : PySem.W.specialIn K (.builtin "object.__class__") "__get__" = some (some (.builtin "getset_descriptor.__get__"))
  htk : PySem.W.takesIn K (.builtin "object.__class__") = some true
  hm : PySem.W.mroIn K C (.type "object") = some true
  noI : PySem.W.kitOne K (.ref C) (.type "int") = some false
  noS : PySem.W.kitOne K (.ref C) (.type "str") = some false
section
variable {X : Cx} {C : Addr}
theorem call_iskE (T : ExcT X.K C) : CallR X (.builtin "isinstance") (fun xs H Q => ∃ x n, xs = [x, .ty n] ∧ (n = "int" ∨ n = "str" ∨ (n = "bool" ∧ Pv H x)) ∧ (Pv H x ∨ IsEx C H x) ∧ Q (.bl (inst n (kind H x))) H) := by
  intro pins s σ H xs us Q I r h
  obtain ⟨x, n, rfl, hn, hv, q⟩ := h
  rcases hv with hv | hv
  · refine call_isk pins s σ H _ us Q I r ⟨x, n, rfl, ?_, hv, q⟩
    rcases hn with h | h | h
    · exact .inl h
    · exact .inr (.inl h)
    · exact .inr (.inr (.inl h.1))
  · rcases hn with h | h | h
    rotate_left 2
    · exact absurd hv.kind h.2
    all_goals
      rw [hv.kind] at q
      obtain ⟨e, d, fs, rfl, he, hd⟩ := hv
      obtain ⟨u1, u2, rfl, r1, r2⟩ := vals2 r
      cases (show u1 = Value.ref e from r1)
      cases (show u2 = Value.type n from r2)
      obtain ⟨⟨oe, vs, h1, h2, h3, h4⟩, _⟩ := (show ObjOk X.prog X.w H s.heap e (ExV C d e) from I.hok e _ he)
      obtain ⟨mA, hns, _⟩ := (show ObjOk X.prog X.w H s.heap d (.xd fs) from I.hok d _ hd)
      obtain ⟨od, ho, hl⟩ := lookIn_ns hns
      have J : PySem.W.InstAt s.heap e oe C (some od) := ⟨h1, h2, by unfold PySem.W.notCls; rw [h4] <;> rfl, by rw [h3]; exact ho⟩
      subst h
    · exact PySem.W.kia_one (PySem.W.kitx_exc T.hcl T.hga T.hgt T.hsub T.ha T.hn T.htk T.hm) I.kIn J T.noI (fun z => nomatch z) fun tk => ⟨.bl false, H, I.tok tk, rfl, q⟩
    · exact PySem.W.kia_one (PySem.W.kitx_exc T.hcl T.hga T.hgt T.hsub T.ha T.hn T.htk T.hm) I.kIn J T.noS (fun z => nomatch z) fun tk => ⟨.bl false, H, I.tok tk, rfl, q⟩
/-- C(e), a value -/
theorem pe_mkE {nm : Str} {qn : String} {fI : Addr} {a : Expr} {ta : TA} {p pos : Pos} {k : Nat} (T : PySem.EzValue.LowTxt X.K X.mg nm qn C fI) (hr : Room k X.A) (ha : PA X [a] ta) (hg : Gl X nm := by rfl) (hdb : (nm == ("__debug__" : Str)) = false := by decide)
    (he : starEach (a :: []) X.env = (false, eval a X.env) :: starEach [] X.env := by rfl) (hpl : (backTo pos (starEach [] X.env)).any (·.1) = false := by rfl) :
    PE X (.Call (.Name nm p) [a] [] pos) (fun σ H Q => ta σ H fun vs H1 => ∃ v, vs = [v] ∧ ∀ d e, H1 d = none → H1 e = none → d ≠ e → Q (.ref e) (upd (upd H1 d (.xd [(("value" : Str), v)])) e (ExV C d e))) := by
  refine ⟨fun pins s σ H Q I h => ?_⟩
  refine wpAny_Call_Name_kw (ld_glob I hg T.gC ?_ hdb)
  refine PySem.W.callWith_K (h₀ := X.base) I.ok.mod.kin T.kC (thn (ha.run pos pins s σ H _ I h) fun us s1 hh => ?_) he hpl
  obtain ⟨vs, H1, I1, r1, v, ev, q1⟩ := hh
  subst ev
  refine ⟨I1.kIn, ?_⟩
  cases r1 with
  | cons rv rn =>
    rename_i v' us'
    cases rn
    show wpAny _ _ (call (.ref C) [v']) _ _ _
    have hlim := I1.nolimit
    obtain ⟨hp, g, dr, tk, os⟩ := s1
    refine wpAny_call (PySem.EzValue.low_made T I1.kIn hlim (by have := hr.dp; omega) fun h' tk' e d M => ?_)
    obtain ⟨oe, fv, hoe, hc, hd, hdat, h1⟩ := M.obj
    have hns := M.ns
    obtain ⟨G', g1, g2⟩ := restrict h' fun b => decide (b ≠ e)
    have gk : ∀ b, b ≠ e → G'.get? b = h'.get? b := fun b hb => g1 b (decide_eq_true hb)
    have ge : G'.get? e = none := g2 e (by simp)
    have old : ∀ b o, hp.get? b = some o → G'.get? b = some o := fun b o q => (gk b (Nat.ne_of_lt (Nat.lt_of_lt_of_le (Heap.lt_size q) M.new))).trans (M.keep b o q)
    have ob : ObjOk X.prog X.w (upd H1 d (.xd [(("value" : Str), v)])) G' d (.xd [(("value" : Str), v)]) :=
      ⟨_, hns.at (fun o q => (gk d M.dne).trans q), fun f => relO_value rv f⟩
    have J : Inv X pins σ (upd H1 d (.xd [(("value" : Str), v)])) ⟨G', g, dr, tk', os⟩ := I1.laid (t' := tk') old M.dbig ob
    have fe : H1 e = none := I1.hok.fresh M.new
    have fe' : upd H1 d (.xd [(("value" : Str), v)]) e = none := by
      rw [upd_ne (Ne.symm M.dne)]
      exact fe
    have kp : ∀ b o, G'.get? b = some o → h'.get? b = some o := fun b o q => by
      by_cases hb : b = e
      · rw [hb, ge] at q; cases q
      · exact (gk b hb).symm.trans q
    exact ⟨.ref e, _, J.laidN (h' := h') (t' := tk') kp ge fe' (exV_ok hoe hc hd hdat), rfl, q1 d e (I1.hok.fresh M.dbig) fe M.dne⟩
end
end Gd

namespace Gd
open PySem PySem.Spec PyProof.Rows L2
/-! ### data as it stands in the heap, dicts with tuples as keys among it -/
mutual
inductive Db (K : PySem.W.Frag) (H : Hp) : V → PyData → Prop
  | non : Db K H .non .none
  | bl (b : Bool) : Db K H (.bl b) (.bool b)
  | int (i : Int) : Db K H (.int i) (.int i)
  | str (x : Str) : Db K H (.str x) (.str x)
  | lst {a : Addr} {xs : List V} {ds : List PyData} : H a = some (.lst xs) → DbL K H xs ds → Db K H (.ref a) (.list ds)
  | tup {a : Addr} {xs : List V} {ds : List PyData} : H a = some (.tup xs) → DbL K H xs ds → Db K H (.ref a) (.tuple ds)
  | dct {a : Addr} {kvs : List (Key × V)} {ds : List PyData} : H a = some (.dK kvs) → DbL K H (kvs.map (·.2)) ds → Db K H (.ref a) (.dict ((kvs.map fun p => kD p.1).zip ds))
  | dcT {a : Addr} {kvs : List (List Key × V)} {ds : List PyData} : H a = some (.dT kvs) → DbL K H (kvs.map (·.2)) ds → Db K H (.ref a) (.dict ((kvs.map fun p => PyData.tuple (p.1.map kD)).zip ds))
inductive DbL (K : PySem.W.Frag) (H : Hp) : List V → List PyData → Prop
  | nil : DbL K H [] []
  | cons {v : V} {vs : List V} {d : PyData} {ds : List PyData} : Db K H v d → DbL K H vs ds → DbL K H (v :: vs) (d :: ds)
end
section
variable {K : PySem.W.Frag} {H H' : Hp}
theorem DbL.length : ∀ {vs : List V} {ds : List PyData}, DbL K H vs ds → ds.length = vs.length
  | _, _, .nil => rfl
  | _, _, .cons _ r => by rw [List.length_cons, List.length_cons, r.length]
mutual
theorem Db.same (e : Same H H') : ∀ {v : V} {d : PyData}, Db K H v d → Db K H' v d
  | _, _, .non => .non
  | _, _, .bl b => .bl b
  | _, _, .int i => .int i
  | _, _, .str x => .str x
  | _, _, .lst h r => .lst (e _ _ h) (DbL.same e r)
  | _, _, .tup h r => .tup (e _ _ h) (DbL.same e r)
  | _, _, .dct h r => .dct (e _ _ h) (DbL.same e r)
  | _, _, .dcT h r => .dcT (e _ _ h) (DbL.same e r)
theorem DbL.same (e : Same H H') : ∀ {vs : List V} {ds : List PyData}, DbL K H vs ds → DbL K H' vs ds
  | _, _, .nil => .nil
  | _, _, .cons h r => .cons (Db.same e h) (DbL.same e r)
end
theorem DbL.append : ∀ {vs ws : List V} {ds es : List PyData}, DbL K H vs ds → DbL K H ws es → DbL K H (vs ++ ws) (ds ++ es)
  | _, _, _, _, .nil, r => r
  | _, _, _, _, .cons h t, r => .cons h (DbL.append t r)
theorem DbL.at : ∀ {vs : List V} {ds : List PyData} {i : Nat} {v : V}, DbL K H vs ds → vs[i]? = some v → ∃ d, ds[i]? = some d ∧ Db K H v d
  | _, _, 0, _, .cons h _, e => by cases e; exact ⟨_, rfl, h⟩
  | _, _, i + 1, _, .cons _ r, e => r.at (i := i) e
end
section
variable {X : Cx} {pins : List (Addr × Obj)} {σ : L2.St} {H : Hp} {s : Shared}
theorem keys_reads : ∀ (k : List Key) (us : List Value), Vals (k.map kV) us → ReadsAll s.heap us (k.map kD) []
  | [], _, .nil => .nil
  | .inl i :: k, _, .cons ⟨t, r⟩ q => by
    cases r
    exact .cons (as := []) (.int i t) (keys_reads k _ q)
  | .inr x :: k, _, .cons ⟨t, r⟩ q => by
    cases r
    exact .cons (as := []) (.str x t) (keys_reads k _ q)
theorem keyT_reads (I : Inv X pins σ H s) : ∀ (kvs : List (List Key × V)) (xs : List (List Key × Addr × Value)), Paired (fun (p : List Key × V) (q : List Key × Addr × Value) => p.1 = q.1 ∧ H q.2.1 = some (.tup (p.1.map kV)) ∧ RelV p.2 q.2.2) kvs xs →
    ReadsAll s.heap ((xs.map (entryOfKey (tupleKind (mixKind X.prog X.w)))).map (·.key)) (kvs.map fun p => PyData.tuple (p.1.map kD)) [] ∧ Vals (kvs.map (·.2)) ((xs.map (entryOfKey (tupleKind (mixKind X.prog X.w)))).map (·.val))
  | _, _, .nil => ⟨.nil, .nil⟩
  | _, _, .cons (a := p) (b := q) ⟨e1, e2, e3⟩ r => by
    obtain ⟨h1, h2⟩ := keyT_reads I _ _ r
    obtain ⟨its, rv, ⟨o, ho, hc, n, hd⟩, _⟩ := I.tuple (SqT.of (K := X.K) e2)
    exact ⟨.cons (as := []) (.tuple ho hc hd (keys_reads _ _ rv)) h1, .cons e3 h2⟩
mutual
theorem Db.reads (I : Inv X pins σ H s) (hS : SysIn X.base) : ∀ {v : V} {d : PyData} {u : Value}, Db X.K H v d → RelV v u → ∃ as, Reads s.heap u d as ∧ Free as
  | _, _, _, .non, r => by
    cases r
    exact ⟨_, .none, List.not_mem_nil⟩
  | _, _, _, .bl b, r => by
    cases r
    exact ⟨_, .bool b, List.not_mem_nil⟩
  | _, _, _, .int i, ⟨t, r⟩ => by
    cases r
    exact ⟨_, .int i t, List.not_mem_nil⟩
  | _, _, _, .str x, ⟨t, r⟩ => by
    cases r
    exact ⟨_, .str x t, List.not_mem_nil⟩
  | _, _, _, .lst h q, r => by
    cases r
    obtain ⟨_, its, n, rv, ho⟩ := I.hok _ _ h
    obtain ⟨as, h1, h2⟩ := DbL.reads I hS q rv
    exact ⟨_, .list ho rfl rfl h1, free_cons (notSys I hS h) h2⟩
  | _, _, _, .tup h q, r => by
    cases r
    obtain ⟨its, rv, ⟨o, ho, hc, n, hd⟩, _⟩ := I.tuple (SqT.of (K := X.K) h)
    obtain ⟨as, h1, h2⟩ := DbL.reads I hS q rv
    exact ⟨_, .tuple ho hc hd h1, h2⟩
  | _, _, _, .dct (kvs := kvs) (ds := ds) h q, r => by
    cases r
    obtain ⟨_, hns, vs, rk, o, es, ep, ho, hex, hd, _, hp, _⟩ := I.hok _ _ h
    obtain ⟨⟨as, k1, k2⟩, rv⟩ := key_reads (s := s) kvs vs es.toList rk hp
    obtain ⟨bs, v1, v2⟩ := DbL.reads I hS q rv
    have hl : (kvs.map fun p => kD p.1).length = ds.length := by
      rw [q.length, List.length_map, List.length_map]
    have k1' : ReadsAll s.heap (es.toList.map (·.key)) (((kvs.map fun p => kD p.1).zip ds).map (·.1)) as := by
      rw [zip_fst _ _ hl]
      exact k1
    have v1' : ReadsAll s.heap (es.toList.map (·.val)) (((kvs.map fun p => kD p.1).zip ds).map (·.2)) bs := by
      rw [zip_snd _ _ hl]
      exact v1
    exact ⟨_, .dict ho hex.1 hd k1' v1', free_app (free_cons (notSys I hS h) k2) v2⟩
  | _, _, _, .dcT (kvs := kvs) (ds := ds) h q, r => by
    cases r
    obtain ⟨_, hns, xs, rk, o, es, ep, ho, hex, hd, he, _⟩ := I.hok _ _ h
    obtain ⟨k1, rv⟩ := keyT_reads I kvs xs rk
    rw [← he] at k1 rv
    obtain ⟨bs, v1, v2⟩ := DbL.reads I hS q rv
    have hl : (kvs.map fun p => PyData.tuple (p.1.map kD)).length = ds.length := by
      rw [q.length, List.length_map, List.length_map]
    have k1' : ReadsAll s.heap (es.toList.map (·.key)) (((kvs.map fun p => PyData.tuple (p.1.map kD)).zip ds).map (·.1)) [] := by
      rw [zip_fst _ _ hl]
      exact k1
    have v1' : ReadsAll s.heap (es.toList.map (·.val)) (((kvs.map fun p => PyData.tuple (p.1.map kD)).zip ds).map (·.2)) bs := by
      rw [zip_snd _ _ hl]
      exact v1
    exact ⟨_, .dict ho hex.1 hd k1' v1', free_app (free_cons (notSys I hS h) List.not_mem_nil) v2⟩
theorem DbL.reads (I : Inv X pins σ H s) (hS : SysIn X.base) : ∀ {vs : List V} {ds : List PyData} {us : List Value}, DbL X.K H vs ds → Vals vs us → ∃ as, ReadsAll s.heap us ds as ∧ Free as
  | _, _, _, .nil, .nil => ⟨_, .nil, List.not_mem_nil⟩
  | _, _, _, .cons h q, .cons r rs => by
    obtain ⟨as, h1, h2⟩ := Db.reads I hS h r
    obtain ⟨bs, h3, h4⟩ := DbL.reads I hS q rs
    exact ⟨_, .cons h1 h3, free_app h2 h4⟩
end
end
/-- repr of data of some depth, dicts with tuples as keys among it -/
theorem call_reprB {X : Cx} (hc : Clean X.A) (hS : SysIn X.base) (hu : X.A.units + 230 < cLine) : CallR X (.builtin "repr") (fun xs H Q => ∃ x d, xs = [x] ∧ Db X.K H x d ∧ Ok1 d ∧ wid d ≤ sizeLine ∧ d.depth ≤ 220 ∧ Q (.str d.shown) H) := by
  intro pins s σ H xs us Q I r h
  obtain ⟨x, d, rfl, hd, ok, hz, hdp, q⟩ := h
  obtain ⟨u, rfl, ru⟩ := vals1 r
  have hz' : d.shown.length ≤ sizeLine := Nat.le_trans (wid_le d ok) hz
  obtain ⟨as, hr, hf⟩ := Db.reads I hS hd ru
  have fin : ∀ (t tk : Tok) (h' : Heap), (∀ b o, s.heap.get? b = some o → h'.get? b = some o) → EP X pins σ Q (.str d.shown t) { s with heap := h', toks := tk } :=
    fun t tk h' k => ⟨.str d.shown, H, I.kept k, ⟨t, rfl⟩, q⟩
  cases hd with
  | non =>
    cases ru
    exact PySem.P.repr_of_none (fin _ _ s.heap fun _ _ e => e)
  | bl b =>
    cases ru
    exact PySem.P.repr_of_bool (fin _ _ s.heap fun _ _ e => e)
  | int i =>
    obtain ⟨t, rfl⟩ := ru
    exact PySem.P.repr_of_int ok (fin _ _ s.heap fun _ _ e => e)
  | str y =>
    obtain ⟨t, rfl⟩ := ru
    exact PySem.P.repr_of_str (fin _ _ s.heap fun _ _ e => e) hz'
  | lst h1 h2 =>
    cases ru
    exact repr_of_reads' hr (ok_show _ ok) (fun _ => hf) hc (by omega) (fun _ _ e => e) (fun h' u tk k => fin u tk h' k) hz'
  | tup h1 h2 =>
    cases ru
    exact repr_of_reads' hr (ok_show _ ok) (fun _ => hf) hc (by omega) (fun _ _ e => e) (fun h' u tk k => fin u tk h' k) hz'
  | dct h1 h2 =>
    cases ru
    exact repr_of_reads' hr (ok_show _ ok) (fun _ => hf) hc (by omega) (fun _ _ e => e) (fun h' u tk k => fin u tk h' k) hz'
  | dcT h1 h2 =>
    cases ru
    exact repr_of_reads' hr (ok_show _ ok) (fun _ => hf) hc (by omega) (fun _ _ e => e) (fun h' u tk k => fin u tk h' k) hz'
end Gd

namespace KT
open PySem L2 Gd
def top (i : Nat) : Stmt := PySem.Challenge.pw_formatrepair_k07_values_that_are_no_tree.main.body.getD i (.Pass ⟨0, 0, 0, 0⟩)
/-- other words that stand first in a tuple -/
def odd3 : List Str := ["more", "None", "Letter"]
def isSgn : Tr → Bool
  | .sgn _ _ => true
  | _ => false
/-- what the defs on trees ask of the names that no def stands behind -/
structure Txt (w : World) (K : PySem.W.Frag) (mg : Str → Option Value) (base : Heap) (aS aL : Addr) (es : Array DictEntry) (n : Nat) : Prop where
  sys : SysIn base
  g_LONGEST_NAME : ∃ u, mg "LONGEST_NAME" = some u ∧ RelV (.int 8) u
  g_MOST_OPEN : ∃ u, mg "MOST_OPEN" = some u ∧ RelV (.int 20) u
  g_WHOLE : ∃ u, mg "WHOLE" = some u ∧ RelV (.int 0) u
  g_ROW : ∃ u, mg "ROW" = some u ∧ RelV (.int 1) u
  g_ITEM : ∃ u, mg "ITEM" = some u ∧ RelV (.int 2) u
  g_OPERAND : ∃ u, mg "OPERAND" = some u ∧ RelV (.int 3) u
  g_LISTED : ∃ u, mg "LISTED" = some u ∧ RelV (.ref aL) u
  q_LISTED : ∀ H, SqT K H aL [.str sSeq, .str sCho]
  g_SIGNS_BY_KIND : ∃ u, mg "SIGNS_BY_KIND" = some u ∧ RelV (.ref aS) u
  d_SIGNS_BY_KIND : KDict K w aS es n
  i_SIGNS_BY_KIND : ∀ t : Tr, ∃ r, PySem.W.nsIn K aS t.kind = some r ∧ r.isSome = isSgn t
  o_SIGNS_BY_KIND : ∀ x ∈ odd3, PySem.W.nsIn K aS x = some none
  z_repr : mg "repr" = none
  z_dict : mg "dict" = none
  z_isinstance : mg "isinstance" = none
  z_str : mg "str" = none
  z_list : mg "list" = none
  z_tuple : mg "tuple" = none
  z_len : mg "len" = none
  z_all : mg "all" = none
/-- whether a tree of this kind stands in parentheses -/
def needs : Tr → Int → Bool
  | .cho _, p => decide (1 ≤ p)
  | .seq _, p => decide (2 ≤ p)
  | .empty, p => decide (2 ≤ p)
  | .sgn _ _, p => decide (p = 3)
  | _, _ => false
def placeIn : Tr → Int
  | .cho _ => 1
  | .seq _ => 2
  | _ => 3
def spNeeds : Sp := fun vs H Q _ => ∃ (t : Tr) (p : Int), vs = [.str t.kind, .int p] ∧ Q (.bl (needs t p)) H
def spPlace : Sp := fun vs H Q _ => ∃ t : Tr, vs = [.str t.kind] ∧ Q (.int (placeIn t)) H
theorem kindEq (t : Tr) (z : Str) : decide (V.str t.kind = V.str z) = decide (t.kind = z) := decide_eq_decide.mpr ⟨fun h => by injection h, fun h => by rw [h]⟩
theorem cho_of {t : Tr} (c : decide (t.kind = Str.ofString "choice") = true) : ∃ l, t = .cho l := by
  have no : ∀ k : Fin 3, decide (sSgn k = Str.ofString "choice") = false := by decide +kernel
  cases t with
  | sgn k u => exact absurd (show decide (sSgn k = Str.ofString "choice") = true from c) (by rw [no k]; exact Bool.false_ne_true)
  | none => exact absurd (show decide (sNone = Str.ofString "choice") = true from c) (by decide +kernel)
  | empty => exact absurd (show decide (sEmpty = Str.ofString "choice") = true from c) (by decide +kernel)
  | letter u => exact absurd (show decide (sLetter = Str.ofString "choice") = true from c) (by decide +kernel)
  | name u => exact absurd (show decide (sName = Str.ofString "choice") = true from c) (by decide +kernel)
  | seq u => exact absurd (show decide (sSeq = Str.ofString "choice") = true from c) (by decide +kernel)
  | cho u => exact ⟨_, rfl⟩
theorem seq_of {t : Tr} (c : decide (t.kind = Str.ofString "sequence") = true) : ∃ l, t = .seq l := by
  have no : ∀ k : Fin 3, decide (sSgn k = Str.ofString "sequence") = false := by decide +kernel
  cases t with
  | sgn k u => exact absurd (show decide (sSgn k = Str.ofString "sequence") = true from c) (by rw [no k]; exact Bool.false_ne_true)
  | none => exact absurd (show decide (sNone = Str.ofString "sequence") = true from c) (by decide +kernel)
  | empty => exact absurd (show decide (sEmpty = Str.ofString "sequence") = true from c) (by decide +kernel)
  | letter u => exact absurd (show decide (sLetter = Str.ofString "sequence") = true from c) (by decide +kernel)
  | name u => exact absurd (show decide (sName = Str.ofString "sequence") = true from c) (by decide +kernel)
  | seq u => exact ⟨_, rfl⟩
  | cho u => exact absurd (show decide (sCho = Str.ofString "sequence") = true from c) (by decide +kernel)
theorem emp_of {t : Tr} (c : decide (t.kind = Str.ofString "empty") = true) : t = .empty := by
  have no : ∀ k : Fin 3, decide (sSgn k = Str.ofString "empty") = false := by decide +kernel
  cases t with
  | sgn k u => exact absurd (show decide (sSgn k = Str.ofString "empty") = true from c) (by rw [no k]; exact Bool.false_ne_true)
  | none => exact absurd (show decide (sNone = Str.ofString "empty") = true from c) (by decide +kernel)
  | empty => exact rfl
  | letter u => exact absurd (show decide (sLetter = Str.ofString "empty") = true from c) (by decide +kernel)
  | name u => exact absurd (show decide (sName = Str.ofString "empty") = true from c) (by decide +kernel)
  | seq u => exact absurd (show decide (sSeq = Str.ofString "empty") = true from c) (by decide +kernel)
  | cho u => exact absurd (show decide (sCho = Str.ofString "empty") = true from c) (by decide +kernel)
theorem non_of {t : Tr} (c : decide (t.kind = Str.ofString "none") = true) : t = .none := by
  have no : ∀ k : Fin 3, decide (sSgn k = Str.ofString "none") = false := by decide +kernel
  cases t with
  | sgn k u => exact absurd (show decide (sSgn k = Str.ofString "none") = true from c) (by rw [no k]; exact Bool.false_ne_true)
  | none => exact rfl
  | empty => exact absurd (show decide (sEmpty = Str.ofString "none") = true from c) (by decide +kernel)
  | letter u => exact absurd (show decide (sLetter = Str.ofString "none") = true from c) (by decide +kernel)
  | name u => exact absurd (show decide (sName = Str.ofString "none") = true from c) (by decide +kernel)
  | seq u => exact absurd (show decide (sSeq = Str.ofString "none") = true from c) (by decide +kernel)
  | cho u => exact absurd (show decide (sCho = Str.ofString "none") = true from c) (by decide +kernel)
theorem let_of {t : Tr} (c : decide (t.kind = Str.ofString "letter") = true) : ∃ l, t = .letter l := by
  have no : ∀ k : Fin 3, decide (sSgn k = Str.ofString "letter") = false := by decide +kernel
  cases t with
  | sgn k u => exact absurd (show decide (sSgn k = Str.ofString "letter") = true from c) (by rw [no k]; exact Bool.false_ne_true)
  | none => exact absurd (show decide (sNone = Str.ofString "letter") = true from c) (by decide +kernel)
  | empty => exact absurd (show decide (sEmpty = Str.ofString "letter") = true from c) (by decide +kernel)
  | letter u => exact ⟨_, rfl⟩
  | name u => exact absurd (show decide (sName = Str.ofString "letter") = true from c) (by decide +kernel)
  | seq u => exact absurd (show decide (sSeq = Str.ofString "letter") = true from c) (by decide +kernel)
  | cho u => exact absurd (show decide (sCho = Str.ofString "letter") = true from c) (by decide +kernel)
theorem nam_of {t : Tr} (c : decide (t.kind = Str.ofString "name") = true) : ∃ l, t = .name l := by
  have no : ∀ k : Fin 3, decide (sSgn k = Str.ofString "name") = false := by decide +kernel
  cases t with
  | sgn k u => exact absurd (show decide (sSgn k = Str.ofString "name") = true from c) (by rw [no k]; exact Bool.false_ne_true)
  | none => exact absurd (show decide (sNone = Str.ofString "name") = true from c) (by decide +kernel)
  | empty => exact absurd (show decide (sEmpty = Str.ofString "name") = true from c) (by decide +kernel)
  | letter u => exact absurd (show decide (sLetter = Str.ofString "name") = true from c) (by decide +kernel)
  | name u => exact ⟨_, rfl⟩
  | seq u => exact absurd (show decide (sSeq = Str.ofString "name") = true from c) (by decide +kernel)
  | cho u => exact absurd (show decide (sCho = Str.ofString "name") = true from c) (by decide +kernel)
end KT

namespace KT
open PySem L2 Gd
def Short (v : V) : Prop := ∀ x, v = .str x → Tx 100000 x
def isTxt : V → Bool
  | .str x => x.cps.toList.all low
  | _ => false
def isLet : V → Bool
  | .str x => decide (x.length = 1) && x.cps.toList.all low
  | _ => false
def isNam : V → Bool
  | .str x => decide (1 ≤ x.length) && (decide (x.length ≤ 8) && x.cps.toList.all low)
  | _ => false
def spAsk (f : V → Bool) : Sp := fun vs H Q _ => ∃ v, vs = [v] ∧ Pv H v ∧ Short v ∧ ∀ H', Same H H' → Q (.bl (f v)) H'
section
variable {P : Program} {w : World} {K : PySem.W.Frag} {mg : Str → Option Value} {base : Heap} {aS aL : Addr} {es : Array DictEntry} {n : Nat}
theorem notStr {H : Hp} {v : V} (c : inst "str" (kind H v) = false) : isTxt v = false ∧ isLet v = false ∧ isNam v = false := by
  rw [isStr_kind] at c
  cases v with
  | str x => exact nomatch c
  | _ => exact ⟨rfl, rfl, rfl⟩
theorem isStrOf {H : Hp} {v : V} (c : inst "str" (kind H v) = true) : ∃ x, v = .str x := by
  rw [isStr_kind] at c
  cases v with
  | str x => exact ⟨x, rfl⟩
  | _ => exact nomatch c
abbrev sis_letter : Stmt := top 11
theorem scis_letter : FnScope ["value"] ["value"] (defScope sis_letter) := ⟨rfl, rfl, rfl, by decide +kernel, rfl, by decide +kernel, by decide +kernel⟩
theorem ok_isletter {f : Addr} {fd : FuncData} (F : Fun K "is_letter" "is_letter" sis_letter f fd) (T : Txt w K mg base aS aL es n) : FnG P w K mg base CX0 1 f fd ["value"] (spAsk isLet) := by
  refine okG F scis_letter (fun vs H Q E h => ?_) (fun cdv A outer s H vs Q E hc hr h => ?_)
  · obtain ⟨v, rfl, _⟩ := h
    rfl
  obtain ⟨v, rfl, hv, hs, q⟩ := h
  have q := q H (Same.refl H)
  refine ⟨_, (pss_one (ps_ret (pe_and (pe_callB call_isk (by rfl) T.z_isinstance (by decide +kernel) (pa_cons (pv 0) (pa_cons (pe_bltn (v := .ty "str") (by rfl) T.z_str (by decide +kernel) rfl) pa_nil))) (pe_and (pe_cmpR op_eq (pe_callB call_len_str (by rfl) T.z_len (by decide +kernel) (pa_cons (pv 0) pa_nil)) pe_int (nomark _)) (pe_one (pe_chain op_le_str op_le_str pe_str (pv 0) pe_str)))))), ?_⟩
  refine ⟨_, rfl, v, _, rfl, .inr (.inl rfl), hv, _, rfl, ?_⟩
  refine iteB (fun c => ?_) (fun c => ?_)
  · obtain ⟨x, rfl⟩ := isStrOf c
    have tx := hs x rfl
    have hl := tx.len
    have z16 := sizeLine_eq
    refine ⟨_, rfl, x, rfl, by omega, rfl, _, rfl, ?_⟩
    have e1 : decide (V.int (x.length : Int) = V.int 1) = decide (x.length = 1) := decide_eq_decide.mpr ⟨fun z => by injection z with z; omega, fun z => by rw [z]; rfl⟩
    rw [e1]
    have qq : Q (.bl (decide (x.length = 1) && x.cps.toList.all low)) H := q
    refine iteB (fun c1 => ?_) (fun c1 => ?_)
    · have h1 : x.cps.toList.length = 1 := by rw [← len_list]; exact of_decide_eq_true c1
      obtain ⟨u, hu⟩ := List.length_eq_one_iff.mp h1
      have ex : x = ⟨#[u]⟩ := str_ext hu
      subst ex
      refine ⟨_, rfl, _, _, rfl, rfl, _, rfl, ?_⟩
      rw [low_fst]
      have ql : Q (.bl (low u)) H := by
        have : (decide (({ cps := #[u] } : Str).length = 1) && ({ cps := #[u] } : Str).cps.toList.all low) = low u := by
          show (true && (low u && true)) = low u
          simp
        rw [this] at qq
        exact qq
      refine iteB (fun g1 => ?_) (fun g1 => ?_)
      · refine ⟨_, _, rfl, rfl, ?_⟩
        rw [low_snd]
        have : low u = decide (u ≤ 122) := by unfold low; rw [g1, Bool.true_and]
        rw [← this]
        exact ql
      · have : low u = false := by unfold low; rw [g1, Bool.false_and]
        rw [← this]
        exact ql
    · rw [c1, Bool.false_and] at qq
      exact qq
  · have := (notStr c).2.1
    rw [this] at q
    exact q
abbrev sis_text : Stmt := top 12
theorem scis_text : FnScope ["value", "sign"] ["value"] (defScope sis_text) := ⟨rfl, rfl, rfl, by decide +kernel, rfl, by decide +kernel, by decide +kernel⟩
theorem ok_istext {f : Addr} {fd : FuncData} (F : Fun K "is_text" "is_text" sis_text f fd) (T : Txt w K mg base aS aL es n) : FnG P w K mg base CX0 1 f fd ["value"] (spAsk isTxt) := by
  refine okG F scis_text (fun vs H Q E h => ?_) (fun cdv A outer s H vs Q E hc hr h => ?_)
  · obtain ⟨v, rfl, _⟩ := h
    rfl
  obtain ⟨v, rfl, hv, hs, q⟩ := h
  refine ⟨_, (pss_one (ps_ret (pe_and (pe_callB call_isk (by rfl) T.z_isinstance (by decide +kernel) (pa_cons (pv 0) (pa_cons (pe_bltn (v := .ty "str") (by rfl) T.z_str (by decide +kernel) rfl) pa_nil))) (pe_one (pe_callB (cr_all rfl) (by rfl) T.z_all (by decide +kernel) (pa_cons (pe_lc (own := [("sign", 1)]) (g := gName 1) rfl scis_text.nd (pi_str (pv 0)) (blkOk_by (N := ["value", "sign"]) (sc := defScope sis_text) (by decide +kernel)) (fun _ _ _ _ _ => pg_name (i := 1) scis_text.nd rfl (Or.inl rfl)) (fun _ _ _ _ _ => pts_nil) (fun _ _ _ _ _ => (pe_chain op_le_str op_le_str pe_str (pv 1) pe_str))) pa_nil)))))), ?_⟩
  refine ⟨_, rfl, v, _, rfl, .inr (.inl rfl), hv, _, rfl, ?_⟩
  refine iteB (fun c => ?_) (fun c => ?_)
  · obtain ⟨x, rfl⟩ := isStrOf c
    have tx := hs x rfl
    have hl := tx.len
    have z16 := sizeLine_eq
    refine ⟨_, rfl, x, rfl, fun D hD => ?_⟩
    refine lc_text (fun c => .bl (low c)) (fun _ => true) (by omega) (fun c acc Q' _ k => k) (fun c acc Q' hc _ k => ?_) ?_
    · refine ⟨_, rfl, _, _, rfl, rfl, _, rfl, ?_⟩
      rw [low_fst]
      refine iteB (fun g1 => ?_) (fun g1 => ?_)
      · refine ⟨_, _, rfl, rfl, ?_⟩
        rw [low_snd]
        have : low c = decide (c ≤ 122) := by unfold low; rw [g1, Bool.true_and]
        rw [← this]
        exact k
      · have : low c = false := by unfold low; rw [g1, Bool.false_and]
        rw [← this]
        exact k
    · rw [List.filter_eq_self.mpr (fun _ _ => rfl)]
      refine ⟨D, x.cps.toList |>.map low, rfl, ?_, ?_⟩
      · rw [List.map_map]
        exact SqL.of upd_same
      · have ea : (x.cps.toList.map low).all id = x.cps.toList.all low := by
          rw [List.all_map]
          rfl
        rw [ea]
        exact q _ fun b o e => by rw [upd_ne (ne_of_none e hD)]; exact e
  · have r := q H (Same.refl H)
    have := (notStr c).1
    rw [this] at r
    exact r
abbrev sis_name : Stmt := top 13
theorem scis_name : FnScope ["value"] ["value"] (defScope sis_name) := ⟨rfl, rfl, rfl, by decide +kernel, rfl, by decide +kernel, by decide +kernel⟩
theorem ok_isname {f f1 : Addr} {fd fd1 : FuncData} (F : Fun K "is_name" "is_name" sis_name f fd) (T : Txt w K mg base aS aL es n)
    (D_is_text : Df P w K mg base CX0 1 "is_text" f1 fd1 ["value"] (spAsk isTxt)) : FnG P w K mg base CX0 2 f fd ["value"] (spAsk isNam) := by
  refine okG F scis_name (fun vs H Q E h => ?_) (fun cdv A outer s H vs Q E hc hr h => ?_)
  · obtain ⟨v, rfl, _⟩ := h
    rfl
  obtain ⟨v, rfl, hv, hs, q⟩ := h
  refine ⟨_, (pss_one (ps_ret (pe_and (pe_callB call_isk (by rfl) T.z_isinstance (by decide +kernel) (pa_cons (pv 0) (pa_cons (pe_bltn (v := .ty "str") (by rfl) T.z_str (by decide +kernel) rfl) pa_nil))) (pe_and (pe_chain op_le op_le pe_int (pe_callB call_len_str (by rfl) T.z_len (by decide +kernel) (pa_cons (pv 0) pa_nil)) (pe_k (by rfl) T.g_LONGEST_NAME)) (pe_one (pe_d D_is_text hc (hr.mono (by omega)) (by rfl) (fun _ => passN) (pa_cons (pv 0) pa_nil))))))), ?_⟩
  refine ⟨_, rfl, v, _, rfl, .inr (.inl rfl), hv, _, rfl, ?_⟩
  refine iteB (fun c => ?_) (fun c => ?_)
  · obtain ⟨x, rfl⟩ := isStrOf c
    have tx := hs x rfl
    have hl := tx.len
    have z16 := sizeLine_eq
    have qq : ∀ H', Same H H' → Q (.bl (decide (1 ≤ x.length) && (decide (x.length ≤ 8) && x.cps.toList.all low))) H' := q
    refine ⟨_, rfl, x, rfl, by omega, _, _, rfl, rfl, _, rfl, ?_⟩
    have e1 : decide ((1 : Int) ≤ (x.length : Int)) = decide (1 ≤ x.length) := decide_eq_decide.mpr (by omega)
    have e2 : decide ((x.length : Int) ≤ (8 : Int)) = decide (x.length ≤ 8) := decide_eq_decide.mpr (by omega)
    rw [e1]
    refine iteB (fun c1 => ?_) (fun c1 => ?_)
    · refine ⟨_, _, rfl, rfl, _, rfl, ?_⟩
      rw [e2]
      refine iteB (fun c2 => ?_) (fun c2 => ?_)
      · refine ⟨_, rfl, _, rfl, hv, hs, fun H' s => ?_⟩
        have := qq H' s
        rw [c1, c2, Bool.true_and, Bool.true_and] at this
        exact this
      · have := qq H (Same.refl H)
        rw [c1, c2, Bool.true_and, Bool.false_and] at this
        first
          | exact this
          | (show Q (.bl (decide ((x.length : Int) ≤ (8 : Int)))) H
             rw [e2, c2]
             exact this)
    · have := qq H (Same.refl H)
      rw [c1, Bool.false_and] at this
      refine ⟨_, rfl, ?_⟩
      refine iteB (fun c2 => absurd c2 (by decide)) (fun _ => this)
  · have r := q H (Same.refl H)
    have := (notStr c).2.2
    rw [this] at r
    exact r
end
end KT

namespace KT
open PySem L2 Gd
mutual
/-- parentheses in one another in the shortest expression -/
def pd : Tr → Nat
  | .sgn _ u => (needs u 3).toNat + pd u
  | .seq l => pds l 2
  | .cho l => pds l 1
  | .none => 0
  | .empty => 0
  | .letter _ => 0
  | .name _ => 0
def pds : List Tr → Int → Nat
  | [], _ => 0
  | t :: l, p => max ((needs t p).toNat + pd t) (pds l p)
end
/-- at a place -/
def pdA (t : Tr) (p : Int) : Nat := (needs t p).toNat + pd t
theorem pds_at : ∀ {l : List Tr} {p : Int} {i : Nat} {t : Tr}, l[i]? = some t → pdA t p ≤ pds l p
  | [], _, _, _, e => nomatch e
  | u :: l, p, 0, t, e => by
    injection e with e
    subst e
    rw [pds]
    exact Nat.le_max_left _ _
  | u :: l, p, i + 1, t, e => by
    rw [pds]
    exact Nat.le_trans (pds_at (l := l) (i := i) e) (Nat.le_max_right _ _)
theorem pdA0 (t : Tr) : pdA t 0 = pd t := by
  have : needs t 0 = false := by cases t <;> rfl
  unfold pdA
  rw [this]
  exact Nat.zero_add _
mutual
theorem h_pd : ∀ t : Tr, t.height ≤ 3 * pd t + 4 ∧ (needs t 1 = false → t.height ≤ 3 * pd t + 3) ∧ (needs t 2 = false → t.height ≤ 3 * pd t + 2) ∧ (needs t 3 = false → t.height ≤ 3 * pd t + 1)
  | .none => by have e : Tr.none.height = 1 := rfl; rw [e]; omega
  | .empty => by have e : Tr.empty.height = 1 := rfl; rw [e]; omega
  | .letter c => by have e : (Tr.letter c).height = 1 := rfl; rw [e]; omega
  | .name x => by have e : (Tr.name x).height = 1 := rfl; rw [e]; omega
  | .sgn k u => by
    obtain ⟨a, _, _, b⟩ := h_pd u
    have e : (Tr.sgn k u).height = u.height + 1 := rfl
    have e2 : pd (.sgn k u) = (needs u 3).toNat + pd u := by rw [pd]
    have n3 : needs (.sgn k u) 3 = true := rfl
    have c : u.height ≤ 3 * ((needs u 3).toNat + pd u) + 1 := by
      cases h : needs u 3 with
      | true => show u.height ≤ 3 * (1 + pd u) + 1; omega
      | false => have := b h; show u.height ≤ 3 * (0 + pd u) + 1; omega
    rw [e, e2]
    refine ⟨by omega, fun _ => by omega, fun _ => by omega, fun z => ?_⟩
    rw [n3] at z
    exact nomatch z
  | .seq l => by
    have a := h_pds l 2 (.inr rfl)
    have e : (Tr.seq l).height = heights l + 1 := rfl
    have e2 : pd (.seq l) = pds l 2 := by rw [pd]
    have n2 : needs (.seq l) 2 = true := rfl
    have n3 : needs (.seq l) 3 = true := rfl
    rw [e, e2]
    refine ⟨by omega, fun _ => by omega, fun z => ?_, fun z => ?_⟩
    · rw [n2] at z
      exact nomatch z
    · rw [n3] at z
      exact nomatch z
  | .cho l => by
    have a := h_pds l 1 (.inl rfl)
    have e : (Tr.cho l).height = heights l + 1 := rfl
    have e2 : pd (.cho l) = pds l 1 := by rw [pd]
    have n1 : needs (.cho l) 1 = true := rfl
    have n2 : needs (.cho l) 2 = true := rfl
    have n3 : needs (.cho l) 3 = true := rfl
    rw [e, e2]
    refine ⟨by omega, fun z => ?_, fun z => ?_, fun z => ?_⟩
    · rw [n1] at z
      exact nomatch z
    · rw [n2] at z
      exact nomatch z
    · rw [n3] at z
      exact nomatch z
theorem h_pds : ∀ (l : List Tr) (p : Int), p = 1 ∨ p = 2 → (heights l : Int) ≤ 3 * pds l p + 4 - p
  | [], p, h => by
    have e : heights [] = 1 := by rw [heights]
    have e2 : pds [] p = 0 := by rw [pds]
    rw [e, e2]
    omega
  | t :: l, p, h => by
    obtain ⟨a, b, c, _⟩ := h_pd t
    have i := h_pds l p h
    have e : heights (t :: l) = max t.height (heights l) := by rw [heights]
    have e2 : pds (t :: l) p = max ((needs t p).toNat + pd t) (pds l p) := by rw [pds]
    have d : (t.height : Int) ≤ 3 * ((needs t p).toNat + pd t : Nat) + 4 - p := by
      cases hn : needs t p with
      | true => show (t.height : Int) ≤ 3 * ((1 + pd t : Nat) : Int) + 4 - p; omega
      | false =>
        rcases h with rfl | rfl
        · have := b hn
          show (t.height : Int) ≤ 3 * ((0 + pd t : Nat) : Int) + 4 - 1
          omega
        · have := c hn
          show (t.height : Int) ≤ 3 * ((0 + pd t : Nat) : Int) + 4 - 2
          omega
    rw [e, e2]
    omega
end
mutual
/-- calls in one another when it is looked at -/
def nod : Tr → Nat
  | .sgn _ u => 1 + ((needs u 3).toNat + nod u)
  | .seq l => 2 + nods l 2
  | .cho l => 2 + nods l 1
  | .none => 1
  | .empty => 1
  | .letter _ => 1
  | .name _ => 1
def nods : List Tr → Int → Nat
  | [], _ => 1
  | t :: l, p => max ((needs t p).toNat + nod t) (nods l p)
end
def fr (t : Tr) (p : Int) : Nat := (needs t p).toNat + nod t
theorem nod_pos : ∀ t : Tr, 1 ≤ nod t
  | .none => by rw [nod]; exact Nat.le_refl _
  | .empty => by rw [nod]; exact Nat.le_refl _
  | .letter _ => by rw [nod]; exact Nat.le_refl _
  | .name _ => by rw [nod]; exact Nat.le_refl _
  | .sgn _ u => by rw [nod]; omega
  | .seq l => by rw [nod]; omega
  | .cho l => by rw [nod]; omega
theorem nods_at : ∀ {l : List Tr} {p : Int} {i : Nat} {t : Tr}, l[i]? = some t → fr t p ≤ nods l p
  | [], _, _, _, e => nomatch e
  | u :: l, p, 0, t, e => by
    injection e with e
    subst e
    rw [nods]
    exact Nat.le_max_left _ _
  | u :: l, p, i + 1, t, e => by
    rw [nods]
    exact Nat.le_trans (nods_at (l := l) (i := i) e) (Nat.le_max_right _ _)
theorem fr0 (t : Tr) : fr t 0 = nod t := by
  have : needs t 0 = false := by cases t <;> rfl
  unfold fr
  rw [this]
  exact Nat.zero_add _
mutual
theorem n_pd : ∀ t : Tr, nod t ≤ 6 * pd t + 6 ∧ (needs t 1 = false → nod t ≤ 6 * pd t + 4) ∧ (needs t 2 = false → nod t ≤ 6 * pd t + 2) ∧ (needs t 3 = false → nod t ≤ 6 * pd t + 1)
  | .none => by have e : nod .none = 1 := by rw [nod]
                rw [e]; omega
  | .empty => by have e : nod .empty = 1 := by rw [nod]
                 rw [e]; omega
  | .letter c => by have e : nod (.letter c) = 1 := by rw [nod]
                    rw [e]; omega
  | .name x => by have e : nod (.name x) = 1 := by rw [nod]
                  rw [e]; omega
  | .sgn k u => by
    obtain ⟨a, _, _, b⟩ := n_pd u
    have e : nod (.sgn k u) = 1 + ((needs u 3).toNat + nod u) := by rw [nod]
    have e2 : pd (.sgn k u) = (needs u 3).toNat + pd u := by rw [pd]
    have n3 : needs (.sgn k u) 3 = true := rfl
    have c : (needs u 3).toNat + nod u ≤ 6 * ((needs u 3).toNat + pd u) + 1 := by
      cases h : needs u 3 with
      | true => show 1 + nod u ≤ 6 * (1 + pd u) + 1; omega
      | false => have := b h; show 0 + nod u ≤ 6 * (0 + pd u) + 1; omega
    rw [e, e2]
    refine ⟨by omega, fun _ => by omega, fun _ => by omega, fun z => ?_⟩
    rw [n3] at z
    exact nomatch z
  | .seq l => by
    have a := n_pds2 l
    have e : nod (.seq l) = 2 + nods l 2 := by rw [nod]
    have e2 : pd (.seq l) = pds l 2 := by rw [pd]
    have n2 : needs (.seq l) 2 = true := rfl
    have n3 : needs (.seq l) 3 = true := rfl
    rw [e, e2]
    refine ⟨by omega, fun _ => by omega, fun z => ?_, fun z => ?_⟩
    · rw [n2] at z
      exact nomatch z
    · rw [n3] at z
      exact nomatch z
  | .cho l => by
    have a := n_pds1 l
    have e : nod (.cho l) = 2 + nods l 1 := by rw [nod]
    have e2 : pd (.cho l) = pds l 1 := by rw [pd]
    have n1 : needs (.cho l) 1 = true := rfl
    have n2 : needs (.cho l) 2 = true := rfl
    have n3 : needs (.cho l) 3 = true := rfl
    rw [e, e2]
    refine ⟨by omega, fun z => ?_, fun z => ?_, fun z => ?_⟩
    · rw [n1] at z
      exact nomatch z
    · rw [n2] at z
      exact nomatch z
    · rw [n3] at z
      exact nomatch z
theorem n_pds2 : ∀ (l : List Tr), nods l 2 ≤ 6 * pds l 2 + 2
  | [] => by rw [nods, pds]; omega
  | t :: l => by
    obtain ⟨a, b, c, _⟩ := n_pd t
    have i := n_pds2 l
    have e : nods (t :: l) 2 = max ((needs t 2).toNat + nod t) (nods l 2) := by rw [nods]
    have e2 : pds (t :: l) 2 = max ((needs t 2).toNat + pd t) (pds l 2) := by rw [pds]
    have d : (needs t 2).toNat + nod t ≤ 6 * ((needs t 2).toNat + pd t) + 2 := by
      cases hn : needs t 2 with
      | true => show 1 + nod t ≤ 6 * (1 + pd t) + 2; omega
      | false => have := c hn; show 0 + nod t ≤ 6 * (0 + pd t) + 2; omega
    rw [e, e2]
    omega
theorem n_pds1 : ∀ (l : List Tr), nods l 1 ≤ 6 * pds l 1 + 4
  | [] => by rw [nods, pds]; omega
  | t :: l => by
    obtain ⟨a, b, c, _⟩ := n_pd t
    have i := n_pds1 l
    have e : nods (t :: l) 1 = max ((needs t 1).toNat + nod t) (nods l 1) := by rw [nods]
    have e2 : pds (t :: l) 1 = max ((needs t 1).toNat + pd t) (pds l 1) := by rw [pds]
    have d : (needs t 1).toNat + nod t ≤ 6 * ((needs t 1).toNat + pd t) + 4 := by
      cases hn : needs t 1 with
      | true => show 1 + nod t ≤ 6 * (1 + pd t) + 4; omega
      | false => have := b hn; show 0 + nod t ≤ 6 * (0 + pd t) + 4; omega
    rw [e, e2]
    omega
end
end KT

namespace KT
open PySem PySem.Spec PyProof.Rows L2 Gd
theorem ix_kd {X : Cx} {d : Addr} {es : Array DictEntry} {n : Nat} (D : KDict X.K X.w d es n) : IxR X (fun x y H Q => ∃ (z : Str) (u0 : Value) (v0 : V), x = .ref d ∧ y = .str z ∧ PySem.W.nsIn X.K d z = some (some u0) ∧ RelV v0 u0 ∧ Q v0 H) := by
  intro value slice pins s σ H x y v u Q I rx ry h hs
  obtain ⟨z, u0, v0, rfl, rfl, e, r, q⟩ := h
  cases rx
  obtain ⟨t, rfl⟩ := ry
  exact tail_any (kd_type D I) slot_dict_getitem.lookup (wpAny_getItem_of (PySem.strKind_is X.prog X.w z t) (PySem.W.mapOf_K (prog := X.prog) I.kIn D.at_ D.lit) (PySem.W.find_K D.at_ e) ⟨v0, H, I.tok _, r, q⟩) hs
def sgTx (k : Fin 3) : Str := if k = 0 then "*" else if k = 1 then "+" else "?"
def par (b : Bool) (x : Str) : Str := if b then Str.empty ++ "(" ++ x ++ ")" else x
mutual
/-- the shortest expression, without parentheses of its own -/
def wr0 : Tr → Str
  | .none => "0"
  | .empty => ""
  | .letter c => ⟨#[c]⟩
  | .name x => Str.empty ++ "<" ++ x ++ ">"
  | .sgn k u => par (needs u 3) (wr0 u) ++ sgTx k
  | .seq l => Txt.join "" (wrs l 2)
  | .cho l => Txt.join "|" (wrs l 1)
def wrs : List Tr → Int → List Str
  | [], _ => []
  | t :: l, p => par (needs t p) (wr0 t) :: wrs l p
end
def wrAt (t : Tr) (p : Int) : Str := par (needs t p) (wr0 t)
theorem wrs_len : ∀ (l : List Tr) (p : Int), (wrs l p).length = l.length
  | [], _ => rfl
  | _ :: l, p => by
    show (wrs l p).length + 1 = l.length + 1
    rw [wrs_len l p]
theorem wrs_at : ∀ {l : List Tr} {p : Int} {i : Nat} {t : Tr}, l[i]? = some t → (wrs l p)[i]? = some (wrAt t p)
  | [], _, _, _, e => nomatch e
  | u :: l, p, 0, t, e => by
    injection e with e
    subst e
    rfl
  | u :: l, p, i + 1, t, e => wrs_at (l := l) (i := i) e
theorem len_app (x y : Str) : (x ++ y).length = x.length + y.length := by rw [Gd.len_list, app_list, List.length_append, ← Gd.len_list, ← Gd.len_list]
theorem par_len (b : Bool) (x : Str) : x.length ≤ (par b x).length := by
  cases b with
  | false => exact Nat.le_refl _
  | true =>
    show x.length ≤ (Str.empty ++ "(" ++ x ++ ")").length
    rw [len_app, len_app]
    omega
theorem join_ge (sep : Str) : ∀ l : List Str, (l.map (·.length)).sum ≤ (Txt.join sep l).length := by
  intro l
  rw [join_str]
  induction l with
  | nil => exact Nat.zero_le _
  | cons x l ih =>
    cases l with
    | nil =>
      show x.length + 0 ≤ x.length
      omega
    | cons y r =>
      show x.length + ((y :: r).map (·.length)).sum ≤ (x ++ sep ++ Str.join sep (y :: r)).length
      rw [len_app, len_app]
      omega
theorem le_sum {l : List Nat} {x : Nat} (h : x ∈ l) : x ≤ l.sum := by
  induction l with
  | nil => exact absurd h List.not_mem_nil
  | cons a l ih =>
    rw [List.sum_cons]
    rcases List.mem_cons.mp h with e | e
    · omega
    · have := ih e
      omega
theorem join_part {sep : Str} {l : List Str} {i : Nat} {x : Str} (h : l[i]? = some x) : x.length ≤ (Txt.join sep l).length :=
  Nat.le_trans (le_sum (List.mem_map.mpr ⟨x, List.mem_of_getElem? h, rfl⟩)) (join_ge sep l)
end KT

namespace KT
open PySem L2 Gd
def isSig (c : Nat) : Bool := decide (c = 42) || (decide (c = 43) || decide (c = 63))
structure TxP (w : World) (K : PySem.W.Frag) (mg : Str → Option Value) (aK : Addr) (eK : Array DictEntry) (nK : Nat) : Prop where
  g_KINDS_BY_SIGN : ∃ u, mg "KINDS_BY_SIGN" = some u ∧ RelV (.ref aK) u
  d_KINDS_BY_SIGN : KDict K w aK eK nK
  i_KINDS_BY_SIGN : ∀ c : Nat, ∃ r, PySem.W.nsIn K aK ⟨#[c]⟩ = some r ∧ r.isSome = isSig c
  v_KINDS_BY_SIGN : ∀ k : _root_.Fin 3, ∃ u0, PySem.W.nsIn K aK (sgTx k) = some (some u0) ∧ RelV (.str (sSgn k)) u0
/-- whether a sign may stand behind another one -/
def mayF (c b : Nat) (d : Int) : Bool :=
  if isSig c then !isSig b && (!decide (b = 124) && !decide (b = 40)) else if decide (c = 40) then decide (d < 20) else if decide (c = 41) then decide (0 < d) else decide (c = 124) || (decide (c = 48) || low c)
def spMay : Sp := fun vs H Q _ => ∃ (c b : Nat) (d : Int), vs = [.str ⟨#[c]⟩, .str ⟨#[b]⟩, .int d] ∧ c < 128 ∧ ∀ H', Same H H' → Q (.bl (mayF c b d)) H'
theorem sgEq (c : Nat) (z : Str) (y : Nat) (h : z.cps.toList = [y]) : decide (V.str ⟨#[c]⟩ = V.str z) = decide (c = y) := by
  rw [str_eq, h]
  exact decide_eq_decide.mpr ⟨fun e => by injection e, fun e => by rw [e]⟩
/-- a row's tree -/
def rowT : List Tr → Tr
  | [] => .empty
  | [t] => t
  | ts => .seq ts
def groupT : List (List Tr) → Tr
  | [r] => rowT r
  | rs => .cho (rs.map rowT)
/-- what a closing row or group gives: a tree in a greater sealed part -/
def Sealed (G H : Hp) (own : Addr → Prop) (v : V) (t : Tr) (H' : Hp) : Prop := ∃ G', Same G G' ∧ Same G' H' ∧ TrAt G' v t ∧ ∀ c, G c = none → G' c ≠ none → own c ∨ H c = none
def spRow : Sp := fun vs H Q _ => ∃ (G : Hp) (b : Addr) (xs : List V) (ts : List Tr), vs = [.ref b] ∧ Same G H ∧ G b = none ∧ H b = some (.lst xs) ∧ TrsAt G xs ts ∧ ∀ v H', Same H H' → Sealed G H (· = b) v (rowT ts) H' → Q v H'
section
variable {P : Program} {w : World} {K : PySem.W.Frag} {mg : Str → Option Value} {base : Heap} {aS aL aK : Addr} {es eK : Array DictEntry} {n nK : Nat}
abbrev srow_tree : Stmt := top 29
theorem scrow_tree : FnScope ["items"] ["items"] (defScope srow_tree) := ⟨rfl, rfl, rfl, by decide +kernel, rfl, by decide +kernel, by decide +kernel⟩
theorem ok_row {f : Addr} {fd : FuncData} (F : Fun K "row_tree" "row_tree" srow_tree f fd) (T : Txt w K mg base aS aL es n) : FnG P w K mg base CX0 1 f fd ["items"] spRow := by
  refine okG F scrow_tree (fun vs H Q E h => ?_) (fun cdv A outer s H vs Q E hc hr h => ?_)
  · obtain ⟨G, b, xs, ts, rfl, _⟩ := h
    rfl
  obtain ⟨G, b, xs, ts, rfl, sG, hGb, hb, hts, q⟩ := h
  refine ⟨_, (pss_cons (ps_if (pt_cmpR op_eq (pe_callB call_len_seq (by rfl) T.z_len (by decide +kernel) (pa_cons (pv 0) pa_nil)) pe_int (nomark _))
  (pss_one (ps_ret (pe_tup (pa_cons pe_str pa_nil)))) pss_nil)
 (pss_cons (ps_if (pt_cmpR op_eq (pe_callB call_len_seq (by rfl) T.z_len (by decide +kernel) (pa_cons (pv 0) pa_nil)) pe_int (nomark _))
  (pss_one (ps_ret (pe_ix ix_list (pv 0) pe_int (fun _ _ => rfl)))) pss_nil)
 (pss_one (ps_ret (pe_tup (pa_cons pe_str (pa_cons (pv 0) pa_nil))))))), ?_⟩
  have z16 := sizeLine_eq
  have lx := hts.length
  have leq : ∀ k : Nat, decide (V.int (xs.length : Int) = V.int (k : Nat)) = decide (ts.length = k) := fun k => decide_eq_decide.mpr ⟨fun z => by injection z with z; omega, fun z => by rw [lx, z]⟩
  have up1 : ∀ {a : Addr} {o : HO}, H a = none → Same H (upd H a o) := fun {a o} h c u hc => by rw [upd_ne (ne_of_none hc h)]; exact hc
  refine ⟨_, rfl, b, xs, rfl, .inl (SqL.of hb), rfl, _, rfl, ?_⟩
  refine iteB (fun c => ?_) (fun c => ?_)
  · have e0 : ts = [] := by
      have := of_decide_eq_true c
      injection this with this
      have h0 : ts.length = 0 := by omega
      exact List.length_eq_zero_iff.mp h0
    subst e0
    refine ⟨by show 1 ≤ sizeLine; omega, fun a ha => q _ _ (up1 ha) ⟨upd G a (.tup [.str sEmpty]), fun c u h => ?_, fun c u h => ?_, .empty upd_same, fun c h1 h2 => ?_⟩⟩
    · rw [upd_ne (ne_of_none (sG _ _ h) ha)]
      exact h
    · by_cases z : c = a
      · rw [z, upd_same] at h ⊢
        exact h
      · rw [upd_ne z] at h ⊢
        exact sG _ _ h
    · by_cases z : c = a
      · rw [z]
        exact .inr ha
      · rw [upd_ne z] at h2
        exact absurd h1 h2
  refine ⟨_, rfl, b, xs, rfl, .inl (SqL.of hb), rfl, _, rfl, ?_⟩
  refine iteB (fun c1 => ?_) (fun c1 => ?_)
  · have l1 : ts.length = 1 := by
      have := of_decide_eq_true c1
      injection this with this
      omega
    obtain ⟨t, rfl⟩ := List.length_eq_one_iff.mp l1
    cases hts with
    | cons h1 h2 =>
      cases h2
      exact ⟨_, rfl, b, _, _, _, rfl, rfl, SqL.of hb, atI_nat (j := 0) rfl, q _ H (Same.refl H) ⟨G, Same.refl G, sG, h1, fun c e1 e2 => absurd e1 e2⟩⟩
  · have e2 : rowT ts = .seq ts := by
      match ts, c, c1 with
      | [], c, _ => exact absurd lx (fun z => by
          have := of_decide_eq_false c
          rw [z] at this
          exact this rfl)
      | [t], _, c1 => exact absurd lx (fun z => by
          have := of_decide_eq_false c1
          rw [z] at this
          exact this rfl)
      | _ :: _ :: _, _, _ => rfl
    refine ⟨_, rfl, by show 2 ≤ sizeLine; omega, fun a ha => q _ _ (up1 ha) ⟨upd (upd G b (.lst xs)) a (.tup [.str sSeq, .ref b]), fun c u h => ?_, fun c u h => ?_, ?_, fun c h1 h2 => ?_⟩⟩
    · rw [upd_ne (ne_of_none (sG _ _ h) ha), upd_ne (ne_of_none h hGb)]
      exact h
    · by_cases z : c = a
      · rw [z, upd_same] at h ⊢
        exact h
      · rw [upd_ne z] at h ⊢
        by_cases z2 : c = b
        · rw [z2, upd_same] at h
          rw [z2, hb]
          exact h
        · rw [upd_ne z2] at h
          exact sG _ _ h
    · rw [e2]
      have nab : b ≠ a := ne_of_none hb ha
      refine .seq upd_same (by rw [upd_ne nab]; exact upd_same) (hts.same fun c u h => ?_)
      rw [upd_ne (ne_of_none (sG _ _ h) ha), upd_ne (ne_of_none h hGb)]
      exact h
    · by_cases z : c = a
      · rw [z]
        exact .inr ha
      · rw [upd_ne z] at h2
        by_cases z2 : c = b
        · exact .inl z2
        · rw [upd_ne z2] at h2
          exact absurd h1 h2
end
end KT

namespace KT
open PySem L2 Gd
theorem sgn1 (c : Nat) (h : c < 128) : Tx 1 ⟨#[c]⟩ := ⟨Nat.le_refl _, fun d hd => by
  have : d = c := by simpa using hd
  omega⟩
theorem isLet1 (c : Nat) : isLet (.str ⟨#[c]⟩) = low c := by
  show (decide (({ cps := #[c] } : Str).length = 1) && (low c && true)) = low c
  rw [Bool.and_true]
  show (true && low c) = low c
  rw [Bool.true_and]
section
variable {P : Program} {w : World} {K : PySem.W.Frag} {mg : Str → Option Value} {base : Heap} {aS aL aK : Addr} {es eK : Array DictEntry} {n nK : Nat}
abbrev smay_follow : Stmt := top 25
theorem scmay_follow : FnScope ["mark", "before", "depth"] ["mark", "before", "depth"] (defScope smay_follow) := ⟨rfl, rfl, rfl, by decide +kernel, rfl, by decide +kernel, by decide +kernel⟩
theorem ok_may {f f1 : Addr} {fd fd1 : FuncData} (F : Fun K "may_follow" "may_follow" smay_follow f fd) (T : Txt w K mg base aS aL es n) (TP : TxP w K mg aK eK nK)
    (D_is_letter : Df P w K mg base CX0 1 "is_letter" f1 fd1 ["value"] (spAsk isLet)) : FnG P w K mg base CX0 2 f fd ["mark", "before", "depth"] spMay := by
  refine okG F scmay_follow (fun vs H Q E h => ?_) (fun cdv A outer s H vs Q E hc hr h => ?_)
  · obtain ⟨c, b, d, rfl, _⟩ := h
    rfl
  obtain ⟨c, b, d, rfl, hc8, q⟩ := h
  refine ⟨_, (pss_cons (ps_if (pt_cmpR (op_in_kd TP.d_KINDS_BY_SIGN) (pv 0) (pe_k (by rfl) TP.g_KINDS_BY_SIGN) (by rfl))
  (pss_one (ps_ret (pe_and (pe_cmpR (op_notIn_kd TP.d_KINDS_BY_SIGN) (pv 1) (pe_k (by rfl) TP.g_KINDS_BY_SIGN) (by rfl)) (pe_and (pe_cmpR op_ne (pv 1) pe_str (nomark _)) (pe_one (pe_cmpR op_ne (pv 1) pe_str (nomark _))))))) pss_nil)
 (pss_cons (ps_if (pt_cmpR op_eq (pv 0) pe_str (nomark _))
  (pss_one (ps_ret (pe_cmpR op_lt (pv 2) (pe_k (by rfl) T.g_MOST_OPEN) (nomark _)))) pss_nil)
 (pss_cons (ps_if (pt_cmpR op_eq (pv 0) pe_str (nomark _))
  (pss_one (ps_ret (pe_cmpR op_gt (pv 2) pe_int (nomark _)))) pss_nil)
 (pss_one (ps_ret (pe_or (pe_cmpR op_eq (pv 0) pe_str (nomark _)) (pe_or (pe_cmpR op_eq (pv 0) pe_str (nomark _)) (pe_one (pe_d D_is_letter hc (hr.mono (by omega)) (by rfl) (fun _ => passN) (pa_cons (pv 0) pa_nil)))))))))), ?_⟩
  obtain ⟨r, hr1, hr2⟩ := TP.i_KINDS_BY_SIGN c
  obtain ⟨r', hr1', hr2'⟩ := TP.i_KINDS_BY_SIGN b
  have e124 := fun x => sgEq x (Str.ofString "|") 124 (by decide +kernel)
  have e40 := fun x => sgEq x (Str.ofString "(") 40 (by decide +kernel)
  have e41 := fun x => sgEq x (Str.ofString ")") 41 (by decide +kernel)
  have e48 := fun x => sgEq x (Str.ofString "0") 48 (by decide +kernel)
  unfold mayF at q
  refine ⟨_, rfl, _, r, rfl, rfl, hr1, _, rfl, ?_⟩
  rw [hr2]
  refine iteB (fun c1 => ?_) (fun c1 => ?_)
  · rw [c1, if_pos rfl] at q
    refine ⟨_, rfl, _, r', rfl, rfl, hr1', _, rfl, ?_⟩
    rw [hr2']
    refine iteB (fun c2 => ?_) (fun c2 => ?_)
    · rw [c2, Bool.true_and] at q
      refine ⟨_, rfl, rfl, _, rfl, ?_⟩
      rw [e124]
      refine iteB (fun c3 => ?_) (fun c3 => ?_)
      · rw [c3, Bool.true_and] at q
        refine ⟨_, rfl, rfl, ?_⟩
        rw [e40]
        exact q H (Same.refl H)
      · rw [c3, Bool.false_and] at q
        exact q H (Same.refl H)
    · rw [c2, Bool.false_and] at q
      exact q H (Same.refl H)
  rw [c1, if_neg Bool.false_ne_true] at q
  refine ⟨_, rfl, rfl, _, rfl, ?_⟩
  rw [e40]
  refine iteB (fun c2 => ?_) (fun c2 => ?_)
  · rw [c2, if_pos rfl] at q
    exact ⟨_, rfl, _, _, rfl, rfl, q H (Same.refl H)⟩
  rw [c2, if_neg Bool.false_ne_true] at q
  refine ⟨_, rfl, rfl, _, rfl, ?_⟩
  rw [e41]
  refine iteB (fun c3 => ?_) (fun c3 => ?_)
  · rw [c3, if_pos rfl] at q
    exact ⟨_, rfl, _, _, rfl, rfl, q H (Same.refl H)⟩
  rw [c3, if_neg Bool.false_ne_true] at q
  refine ⟨_, rfl, rfl, _, rfl, ?_⟩
  rw [e124]
  refine iteB (fun c4 => ?_) (fun c4 => ?_)
  · rw [c4, Bool.true_or] at q
    exact q H (Same.refl H)
  rw [c4, Bool.false_or] at q
  refine ⟨_, rfl, rfl, _, rfl, ?_⟩
  rw [e48]
  refine iteB (fun c5 => ?_) (fun c5 => ?_)
  · rw [c5, Bool.true_or] at q
    exact q H (Same.refl H)
  rw [c5, Bool.false_or] at q
  refine ⟨_, rfl, .str ⟨#[c]⟩, rfl, (fun z => nomatch z), (fun x z => ?_), fun H' s => ?_⟩
  · injection z with z
    rw [← z]
    exact (sgn1 c hc8).mono (by decide)
  · rw [isLet1]
    exact q H' s
end
end KT

namespace KT
open PySem L2 Gd
theorem trs_append {H : Hp} : ∀ {vs ws : List V} {ts us : List Tr}, TrsAt H vs ts → TrsAt H ws us → TrsAt H (vs ++ ws) (ts ++ us)
  | _, _, _, _, .nil, h => h
  | _, _, _, _, .cons h t, k => .cons h (trs_append t k)
/-- the open rows of a group: where each list stands, what it holds -/
abbrev Rows := List (Addr × List V × List Tr)
def RowsAt (G H : Hp) (rs : Rows) : Prop := ∀ r ∈ rs, G r.1 = none ∧ H r.1 = some (.lst r.2.1) ∧ TrsAt G r.2.1 r.2.2
def spGroup : Sp := fun vs H Q _ => ∃ (G : Hp) (g : Addr) (rs : Rows), vs = [.ref g] ∧ Same G H ∧ H g = some (.lst (rs.map fun r => V.ref r.1)) ∧ RowsAt G H rs ∧ (rs.map (·.1)).Nodup ∧ rs ≠ [] ∧ rs.length ≤ 100000 ∧
  ∀ v H', Same H H' → Sealed G H (· ∈ rs.map (·.1)) v (groupT (rs.map fun r => r.2.2)) H' → Q v H'
theorem group2 {l : List (List Tr)} (h : 2 ≤ l.length) : groupT l = .cho (l.map rowT) := by
  match l, h with
  | _ :: _ :: _, _ => rfl
theorem nodup_take {rs : Rows} {i : Nat} {r : Addr × List V × List Tr} (h : (rs.map (·.1)).Nodup) (e : rs[i]? = some r) (m : r.1 ∈ (rs.take i).map (·.1)) : False := by
  have e1 : (rs.map (·.1))[i]? = some r.1 := by rw [List.getElem?_map, e]; rfl
  rw [List.map_take] at m
  obtain ⟨j, hj, hm⟩ := List.getElem_of_mem m
  have hj2 := hj
  rw [List.length_take] at hj2
  have hji : j < i := by omega
  have hjl : j < (rs.map (·.1)).length := by omega
  obtain ⟨hil, hi⟩ := List.getElem?_eq_some_iff.mp e1
  have hjv : (rs.map (·.1))[j] = r.1 := by
    rw [← hm]
    simp [List.getElem_take]
  exact (List.pairwise_iff_getElem.mp h) j i hjl hil hji (hjv.trans hi.symm)
section
variable {P : Program} {w : World} {K : PySem.W.Frag} {mg : Str → Option Value} {base : Heap} {aS aL aK : Addr} {es eK : Array DictEntry} {n nK : Nat}
abbrev sgroup_tree : Stmt := top 28
theorem scgroup_tree : FnScope ["rows", "row"] ["rows"] (defScope sgroup_tree) := ⟨rfl, rfl, rfl, by decide +kernel, rfl, by decide +kernel, by decide +kernel⟩
theorem ok_group {f f1 : Addr} {fd fd1 : FuncData} (F : Fun K "group_tree" "group_tree" sgroup_tree f fd) (T : Txt w K mg base aS aL es n)
    (D_row_tree : Df P w K mg base CX0 1 "row_tree" f1 fd1 ["items"] spRow) : FnG P w K mg base CX0 2 f fd ["rows"] spGroup := by
  refine okG F scgroup_tree (fun vs H Q E h => ?_) (fun cdv A outer s H vs Q E hc hr h => ?_)
  · obtain ⟨G, g, rs, rfl, _⟩ := h
    rfl
  obtain ⟨G, g, rs, rfl, sG, hg, hrs, hnd, hne, hlen, q⟩ := h
  refine ⟨_, (pss_cons (ps_if (pt_cmpR op_eq (pe_callB call_len_seq (by rfl) T.z_len (by decide +kernel) (pa_cons (pv 0) pa_nil)) pe_int (nomark _))
  (pss_one (ps_ret (pe_d D_row_tree hc (hr.mono (by omega)) (by rfl) (fun _ => passN) (pa_cons (pe_ix ix_list (pv 0) pe_int (fun _ _ => rfl)) pa_nil)))) pss_nil)
 (pss_one (ps_ret (pe_tup (pa_cons pe_str (pa_cons (pe_lc (own := [("row", 1)]) (g := gName 1) rfl scgroup_tree.nd (pi_list (pv 0)) (blkOk_by (N := ["rows", "row"]) (sc := defScope sgroup_tree) (by decide +kernel)) (fun _ _ _ _ _ => pg_name (i := 1) scgroup_tree.nd rfl (Or.inl rfl)) (fun _ _ _ _ _ => pts_nil) (fun _ _ _ _ _ => (pe_d D_row_tree hc (hr.mono (by omega)) (by rfl) (fun _ => passN) (pa_cons (pv 1) pa_nil)))) pa_nil)))))), ?_⟩
  have z16 := sizeLine_eq
  have lm : (rs.map fun r => V.ref r.1).length = rs.length := List.length_map _
  refine ⟨_, rfl, g, _, rfl, .inl (SqL.of hg), rfl, _, rfl, ?_⟩
  refine iteB (fun c => ?_) (fun c => ?_)
  · have l1 : rs.length = 1 := by
      have := of_decide_eq_true c
      injection this with this
      omega
    obtain ⟨r, rfl⟩ := List.length_eq_one_iff.mp l1
    obtain ⟨h1, h2, h3⟩ := hrs r List.mem_cons_self
    refine ⟨_, rfl, g, _, _, _, rfl, rfl, SqL.of hg, atI_nat (j := 0) rfl, G, r.1, r.2.1, r.2.2, rfl, sG, h1, h2, h3, fun v H' sH sl => q v H' sH ?_⟩
    obtain ⟨G', a1, a2, a3, a4⟩ := sl
    exact ⟨G', a1, a2, a3, fun c e1 e2 => (a4 c e1 e2).imp (fun z => by rw [z]; exact List.mem_cons_self) id⟩
  have l2 : 2 ≤ rs.length := by
    have h0 : rs.length ≠ 0 := fun z => hne (List.length_eq_zero_iff.mp z)
    have h1 : rs.length ≠ 1 := fun z => by
      have := of_decide_eq_false c
      rw [lm, z] at this
      exact this rfl
    omega
  refine ⟨_, rfl, g, rfl, ⟨_, SqL.of hg⟩, fun D hD => ?_⟩
  have hGD : G D = none := by
    cases e : G D with
    | none => rfl
    | some o => rw [sG _ _ e] at hD; exact nomatch hD
  refine lc_list (xs := rs.map fun r => V.ref r.1) (fun i H' => ∃ G' vs', H' D = some (.lst vs') ∧ TrsAt G' vs' ((rs.take i).map fun r => rowT r.2.2) ∧ Same G G' ∧ Same G' H' ∧ Same H H' ∧ G' D = none ∧ ∀ c, G c = none → G' c ≠ none → c ∈ (rs.take i).map (·.1) ∨ H c = none)
    ⟨G, [], upd_same, .nil, Same.refl G, fun c u h => by rw [upd_ne (fun z => by rw [z, hGD] at h; exact nomatch h)]; exact sG _ _ h, fun c u h => by rw [upd_ne (ne_of_none h hD)]; exact h, hGD, fun c e1 e2 => absurd e1 e2⟩
    (fun i H' _ ⟨_, _, _, _, _, _, s, _⟩ => SqL.of (s _ _ hg)) ?_ ?_
  · rintro i x Hh hx ⟨G', vs', g1, g2, g3, g4, g5, g6, g7⟩
    rw [List.getElem?_map] at hx
    obtain ⟨r, hri, rfl⟩ : ∃ r, rs[i]? = some r ∧ x = V.ref r.1 := by
      cases e : rs[i]? with
      | none => rw [e] at hx; exact nomatch hx
      | some r => rw [e] at hx; exact ⟨r, rfl, (Option.some.inj hx).symm⟩
    obtain ⟨h1, h2, h3⟩ := hrs r (List.mem_of_getElem? hri)
    have hD1 : D ≠ r.1 := fun z => by rw [z, h2] at hD; exact nomatch hD
    have hGr : G' r.1 = none := by
      cases e : G' r.1 with
      | none => rfl
      | some o =>
        exfalso
        rcases g7 r.1 h1 (by rw [e]; exact fun z => nomatch z) with h | h
        · exact nodup_take hnd hri h
        · rw [h2] at h
          exact nomatch h
    have ilt : i < rs.length := (List.getElem?_eq_some_iff.mp hri).1
    refine ⟨wipe1 _ _ _, yes_go ?_⟩
    refine ⟨_, rfl, G', r.1, r.2.1, r.2.2, rfl, g4, hGr, g5 _ _ h2, h3.same g3, fun v H' sH sl => ?_⟩
    obtain ⟨G2, a1, a2, a3, a4⟩ := sl
    have lv := g2.length
    rw [List.length_map, List.length_take] at lv
    have hG2D : G2 D = none := by
      cases e : G2 D with
      | none => rfl
      | some o =>
        exfalso
        rcases a4 D g6 (by rw [e]; exact fun z => nomatch z) with h | h
        · exact hD1 h
        · rw [g1] at h
          exact nomatch h
    refine ⟨vs', sH _ _ g1, by omega, G2, vs' ++ [v], upd_same, ?_, g3.trans a1, fun c u h => ?_, fun c u h => ?_, hG2D, fun c e1 e2 => ?_⟩
    · rw [take_snoc hri, List.map_append]
      exact trs_append (g2.same a1) (.cons a3 .nil)
    · rw [upd_ne (fun z => by rw [z, hG2D] at h; exact nomatch h)]
      exact a2 _ _ h
    · rw [upd_ne (ne_of_none h hD)]
      exact sH _ _ (g5 _ _ h)
    · rw [take_snoc hri, List.map_append]
      cases e : G' c with
      | some o =>
        exact (g7 c e1 (by rw [e]; exact fun z => nomatch z)).imp (fun h => List.mem_append_left _ h) id
      | none =>
        rcases a4 c e e2 with h | h
        · exact .inl (List.mem_append_right _ (by rw [h]; exact List.mem_cons_self))
        · refine .inr ?_
          cases e3 : H c with
          | none => rfl
          | some o => rw [g5 _ _ e3] at h; exact nomatch h
  rintro H' ⟨G', vs', g1, g2, g3, g4, g5, g6, g7⟩
  rw [lm, List.take_length] at g2 g7
  refine ⟨by show 2 ≤ sizeLine; omega, fun a ha => q _ _ (fun c u h => by rw [upd_ne (ne_of_none (g5 _ _ h) ha)]; exact g5 _ _ h) ⟨upd (upd G' D (.lst vs')) a (.tup [.str sCho, .ref D]), fun c u h => ?_, fun c u h => ?_, ?_, fun c e1 e2 => ?_⟩⟩
  · have h' := g3 _ _ h
    rw [upd_ne (ne_of_none (g4 _ _ h') ha), upd_ne (ne_of_none h' g6)]
    exact h'
  · by_cases z : c = a
    · rw [z, upd_same] at h ⊢
      exact h
    · rw [upd_ne z] at h ⊢
      by_cases z2 : c = D
      · rw [z2, upd_same] at h
        rw [z2, g1]
        exact h
      · rw [upd_ne z2] at h
        exact g4 _ _ h
  · have e : groupT (rs.map fun r => r.2.2) = .cho (rs.map fun r => rowT r.2.2) := by
      rw [group2 (by rw [List.length_map]; exact l2), List.map_map]
      rfl
    rw [e]
    have nD : D ≠ a := ne_of_none g1 ha
    refine .cho upd_same (by rw [upd_ne nD]; exact upd_same) (g2.same fun c u h => ?_)
    rw [upd_ne (ne_of_none (g4 _ _ h) ha), upd_ne (ne_of_none h g6)]
    exact h
  · by_cases z : c = a
    · rw [z]
      refine .inr ?_
      cases e3 : H a with
      | none => rfl
      | some o => rw [g5 _ _ e3] at ha; exact nomatch ha
    · rw [upd_ne z] at e2
      by_cases z2 : c = D
      · rw [z2]
        exact .inr hD
      · rw [upd_ne z2] at e2
        exact g7 c e1 e2
end
end KT

namespace KT
open PySem L2 Gd
/-- the closing bracket of a well formed name -/
def spEnd : Sp := fun vs H Q _ => ∃ (z x : Str) (pre post : List Nat), vs = [.str z, .int (pre.length : Nat)] ∧ z.cps.toList = pre ++ 60 :: (x.cps.toList ++ 62 :: post) ∧ z.length ≤ 100000 ∧ Tx 8 x ∧ 1 ≤ x.length ∧ x.cps.toList.all low = true ∧ ∀ H', Same H H' → Q (.int ((pre.length + 1 + x.length : Nat) : Int)) H'
section
variable {P : Program} {w : World} {K : PySem.W.Frag} {mg : Str → Option Value} {base : Heap} {aS aL aK C_E f_E : Addr} {es eK : Array DictEntry} {n nK : Nat}
abbrev sname_end : Stmt := top 27
theorem scname_end : FnScope ["text", "start", "end"] ["text", "start"] (defScope sname_end) := ⟨rfl, rfl, rfl, by decide +kernel, rfl, by decide +kernel, by decide +kernel⟩
theorem ok_end {f f1 : Addr} {fd fd1 : FuncData} (F : Fun K "name_end" "name_end" sname_end f fd) (T : Txt w K mg base aS aL es n)
    (D_is_letter : Df P w K mg base CX0 1 "is_letter" f1 fd1 ["value"] (spAsk isLet)) : FnG P w K mg base (L2.CX P w) 2 f fd ["text", "start"] spEnd := by
  refine okG F scname_end (fun vs H Q E h => ?_) (fun cdv A outer s H vs Q E hc hr h => ?_)
  · obtain ⟨z, x, pre, post, rfl, _⟩ := h
    rfl
  obtain ⟨z, x, pre, post, rfl, hz, hzl, hx, hx1, hxl, q⟩ := h
  refine ⟨_, (pss_cons (ps_set (i := 2) scname_end.nd rfl (Or.inl rfl) (pe_op op_add (pv 1) pe_int))
 (pss_cons (ps_while (passes_of rfl) (PW.pt (pw_and (pt_cmpR op_lt (pv 2) (pe_callB call_len_str (by rfl) T.z_len (by decide +kernel) (pa_cons (pv 0) pa_nil)) (nomark _)) (pw_and (pt_cmpR op_le (pe_op op_sub (pv 2) (pv 1)) (pe_k (by rfl) T.g_LONGEST_NAME) (nomark _)) (pw_and1 (pt_val (pe_d D_is_letter hc (hr.mono (by omega)) (by rfl) (fun _ => passN) (pa_cons (pe_ix ix_str (pv 0) (pv 2) (fun _ _ => rfl)) pa_nil)))))))
  (pss_one (ps_aug (i := 2) scname_end.nd rfl (Or.inl rfl) pe_int ip_add)))
 (pss_cons (ps_if (PW.pt (pw_or (pt_cmpR op_eq (pv 2) (pe_op op_add (pv 1) pe_int) (nomark _)) (pw_or (pt_cmpR op_eq (pv 2) (pe_callB call_len_str (by rfl) T.z_len (by decide +kernel) (pa_cons (pv 0) pa_nil)) (nomark _)) (pw_or1 (pt_cmpR op_ne (pe_ix ix_str (pv 0) (pv 2) (fun _ _ => rfl)) pe_str (nomark _))))))
  (pss_one ps_never) pss_nil)
 (pss_one (ps_ret (pv 2)))))), ?_⟩
  have z16 := sizeLine_eq
  refine ⟨_, rfl, _, _, rfl, rfl, ?_⟩
  have lz : z.length = pre.length + 1 + x.length + 1 + post.length := by
    rw [Gd.len_list, hz, List.length_append, List.length_cons, List.length_append, List.length_cons, ← Gd.len_list]
    omega
  have hx8 := hx.len
  have at' : ∀ j : Nat, z.cps.toList[pre.length + 1 + j]? = (x.cps.toList ++ 62 :: post)[j]? := fun j => by
    rw [hz, List.getElem?_append_right (by omega)]
    have : pre.length + 1 + j - pre.length = j + 1 := by omega
    rw [this, List.getElem?_cons_succ]
  have lxl : x.cps.toList.length = x.length := (Gd.len_list x).symm
  have stop : ∀ H', Same H H' → (tSeq
                  (tIfS
                    (tOr (tTest (tOp rEq (tVar 2) (tOp (rI0 fun i j => V.int (i + j)) (tVar 1) (tC (V.int 1)))))
                      (tOr
                        (tTest
                          (tOp rEq (tVar 2)
                            (tCB (fun xs H Q => ∃ z, xs = [V.str z] ∧ z.length ≤ sizeLine ∧ Q (V.int ↑z.length) H)
                              (tCons (tVar 0) tNil))))
                        (tTest (tOp rNe (tOp rIxS (tVar 0) (tVar 2)) (tC (V.str (Str.ofString ">")))))))
                    tNever tNext)
                  (tRet (tVar 2))) { nx := fun _ H' => Q .non H', rt := Q } [some (.str z), some (.int (pre.length : Nat)), some (.int ((pre.length + 1 + x.length : Nat) : Int))] H' := by
    intro H' s
    refine ⟨_, rfl, _, rfl, _, _, rfl, rfl, rfl, _, rfl, ?_⟩
    refine iteB (fun c => ?_) (fun _ => ?_)
    · have c1 := of_decide_eq_true c
      injection c1 with c1
      omega
    refine ⟨_, rfl, _, rfl, z, rfl, by omega, rfl, _, rfl, ?_⟩
    refine iteB (fun c => ?_) (fun _ => ?_)
    · have c1 := of_decide_eq_true c
      injection c1 with c1
      omega
    have e62 : atI z.cps.toList ((pre.length + 1 + x.length : Nat) : Int) = some 62 := atI_nat (by
      rw [at' x.length, List.getElem?_append_right (by omega), lxl, Nat.sub_self]
      rfl)
    refine ⟨_, rfl, _, rfl, _, _, 62, rfl, rfl, by omega, e62, rfl, _, rfl, ?_⟩
    refine iteB (fun c => absurd c (by decide +kernel)) (fun _ => ?_)
    exact ⟨_, rfl, q H' s⟩
  refine ⟨fun m σ H' => ∃ j : Nat, m = x.length - j ∧ j ≤ x.length ∧ σ = [some (.str z), some (.int (pre.length : Nat)), some (.int ((pre.length + 1 + j : Nat) : Int))] ∧ Same H H', ⟨x.length - 0, 0, rfl, by omega, rfl, Same.refl H⟩, ?_⟩
  rintro m _ H' ⟨j, rfl, hj, rfl, s⟩
  refine ⟨_, rfl, _, rfl, z, rfl, by omega, _, _, rfl, rfl, _, rfl, ?_⟩
  refine iteB (fun _ => ?_) (fun c => absurd (of_decide_eq_false c) (by omega))
  refine ⟨_, rfl, _, rfl, _, _, rfl, rfl, _, _, rfl, rfl, _, rfl, ?_⟩
  rcases Nat.lt_or_ge j x.length with hlt | hge
  · refine iteB (fun _ => ?_) (fun c => absurd (of_decide_eq_false c) (by omega))
    obtain ⟨c0, hc0, hm⟩ : ∃ c0, x.cps.toList[j]? = some c0 ∧ c0 ∈ x.cps.toList := ⟨_, List.getElem?_eq_getElem (by omega), List.getElem_mem _⟩
    have ec : atI z.cps.toList ((pre.length + 1 + j : Nat) : Int) = some c0 := atI_nat (by rw [at' j, List.getElem?_append_left (by omega)]; exact hc0)
    have lo : low c0 = true := List.all_eq_true.mp hxl c0 hm
    refine ⟨_, rfl, _, rfl, _, _, c0, rfl, rfl, by omega, ec, _, rfl, (fun z => nomatch z), (fun y e => ?_), fun H2 s2 => ⟨_, rfl, ?_⟩⟩
    · injection e with e
      rw [← e]
      exact (sgn1 c0 (hx.asc c0 hm)).mono (by decide)
    rw [isLet1, lo]
    refine iteT ⟨fun σ' H3 => ∃ m', m' < x.length - j ∧ ∃ j : Nat, m' = x.length - j ∧ j ≤ x.length ∧ σ' = [some (.str z), some (.int (pre.length : Nat)), some (.int ((pre.length + 1 + j : Nat) : Int))] ∧ Same H H3, fun _ _ h => h, ?_⟩
    refine ⟨_, rfl, _, _, rfl, rfl, x.length - (j + 1), by omega, j + 1, rfl, by omega, ?_, s.trans s2⟩
    show [some (V.str z), some (V.int (pre.length : Nat)), some (V.int (((pre.length + 1 + j : Nat) : Int) + 1))] = _
    rw [show (((pre.length + 1 + j : Nat) : Int) + 1) = ((pre.length + 1 + (j + 1) : Nat) : Int) by omega]
  · have ej : j = x.length := by omega
    subst ej
    refine iteB (fun _ => ?_) (fun _ => ?_)
    · have e62 : atI z.cps.toList ((pre.length + 1 + x.length : Nat) : Int) = some 62 := atI_nat (by
        rw [at' x.length, List.getElem?_append_right (by omega), lxl, Nat.sub_self]
        rfl)
      refine ⟨_, rfl, _, rfl, _, _, 62, rfl, rfl, by omega, e62, _, rfl, (fun z => nomatch z), (fun y e => ?_), fun H2 s2 => ⟨_, rfl, ?_⟩⟩
      · injection e with e
        rw [← e]
        exact (sgn1 62 (by decide)).mono (by decide)
      rw [isLet1]
      exact iteB (fun c => absurd c (by decide)) (fun _ => stop H2 (s.trans s2))
    · exact iteB (fun c => absurd c (by decide)) (fun _ => stop H' s)
end
end KT

namespace KT
open PySem L2 Gd
/-! ### the open groups of the parser -/
abbrev Grp := Addr × Rows
def addrs (gs : List Grp) : List Addr := gs.flatMap fun x => x.1 :: x.2.map (·.1)
structure StAt (G H : Hp) (A : Addr) (gs : List Grp) : Prop where
  sG : Same G H
  top : H A = some (.lst (gs.map fun x => V.ref x.1))
  grp : ∀ x ∈ gs, H x.1 = some (.lst (x.2.map fun r => V.ref r.1)) ∧ ∀ r ∈ x.2, H r.1 = some (.lst r.2.1) ∧ TrsAt G r.2.1 r.2.2
  nd : (A :: addrs gs).Nodup
  fr : ∀ c ∈ A :: addrs gs, G c = none
theorem addrs_app (gs hs : List Grp) : addrs (gs ++ hs) = addrs gs ++ addrs hs := List.flatMap_append
theorem addrs_one (g : Addr) (rs : Rows) : addrs [(g, rs)] = g :: rs.map (·.1) := by
  show (g :: rs.map (·.1)) ++ [] = _
  rw [List.append_nil]
theorem mem_addrs_g {gs : List Grp} {x : Grp} (h : x ∈ gs) : x.1 ∈ addrs gs := List.mem_flatMap.mpr ⟨x, h, List.mem_cons_self⟩
theorem mem_addrs_r {gs : List Grp} {x : Grp} {r : Addr × List V × List Tr} (h : x ∈ gs) (hr : r ∈ x.2) : r.1 ∈ addrs gs := List.mem_flatMap.mpr ⟨x, h, List.mem_cons_of_mem _ (List.mem_map.mpr ⟨r, hr, rfl⟩)⟩
section
variable {G G' H H1 : Hp} {A : Addr} {gs : List Grp}
theorem StAt.alive (S : StAt G H A gs) : ∀ c ∈ A :: addrs gs, H c ≠ none := by
  intro c hc
  rcases List.mem_cons.mp hc with rfl | hc
  · rw [S.top]
    exact fun z => nomatch z
  · obtain ⟨x, hx, hc⟩ := List.mem_flatMap.mp hc
    rcases List.mem_cons.mp hc with rfl | hc
    · rw [(S.grp x hx).1]
      exact fun z => nomatch z
    · obtain ⟨r, hr, rfl⟩ := List.mem_map.mp hc
      rw [((S.grp x hx).2 r hr).1]
      exact fun z => nomatch z
/-- the heap goes on, the sealed part grows -/
theorem StAt.go (S : StAt G H A gs) (sH : Same H H1) (sg : Same G G') (sG : Same G' H1) (fr : ∀ c ∈ A :: addrs gs, G' c = none) : StAt G' H1 A gs :=
  ⟨sG, sH _ _ S.top, fun x hx => ⟨sH _ _ (S.grp x hx).1, fun r hr => ⟨sH _ _ ((S.grp x hx).2 r hr).1, ((S.grp x hx).2 r hr).2.same sg⟩⟩, S.nd, fr⟩
/-- the last row of the last group is written -/
theorem StAt.row {g r : Addr} {rs : Rows} {vs vs' : List V} {ts ts' : List Tr} (S : StAt G H A (gs ++ [(g, rs ++ [(r, vs, ts)])])) (ht : TrsAt G vs' ts') : StAt G (upd H r (.lst vs')) A (gs ++ [(g, rs ++ [(r, vs', ts')])]) := by
  have ea : addrs (gs ++ [(g, rs ++ [(r, vs', ts')])]) = addrs (gs ++ [(g, rs ++ [(r, vs, ts)])]) := by
    rw [addrs_app, addrs_app, addrs_one, addrs_one, List.map_append, List.map_append]
    rfl
  have nd := S.nd
  rw [addrs_app, addrs_one, List.map_append] at nd
  have nd' : (A :: (addrs gs ++ (g :: (rs.map (·.1) ++ [r])))).Nodup := nd
  rw [List.nodup_cons, List.nodup_append, List.nodup_cons, List.nodup_append] at nd'
  obtain ⟨n1, n2, ⟨n3, n4, n5, n6⟩, n7⟩ := nd'
  have hAr : A ≠ r := fun z => n1 (List.mem_append_right _ (List.mem_cons_of_mem _ (List.mem_append_right _ (by rw [z]; exact List.mem_cons_self))))
  have hgr : g ≠ r := fun z => n3 (List.mem_append_right _ (by rw [z]; exact List.mem_cons_self))
  have hin : ∀ c ∈ addrs gs, c ≠ r := fun c hc => n7 c hc r (List.mem_cons_of_mem _ (List.mem_append_right _ List.mem_cons_self))
  have hrs : ∀ q ∈ rs, q.1 ≠ r := fun q hq => n6 q.1 (List.mem_map.mpr ⟨q, hq, rfl⟩) r List.mem_cons_self
  have hGr : G r = none := S.fr r (by rw [addrs_app, addrs_one, List.map_append]; exact List.mem_cons_of_mem _ (List.mem_append_right _ (List.mem_cons_of_mem _ (List.mem_append_right _ List.mem_cons_self))))
  refine ⟨fun c u h => ?_, ?_, fun x hx => ?_, by rw [ea]; exact S.nd, by rw [ea]; exact S.fr⟩
  · rw [upd_ne (fun z => by rw [z, hGr] at h; exact nomatch h)]
    exact S.sG _ _ h
  · rw [upd_ne hAr, S.top, List.map_append, List.map_append]
    rfl
  · rcases List.mem_append.mp hx with h | h
    · have hx' := S.grp x (List.mem_append_left _ h)
      refine ⟨by rw [upd_ne (hin _ (mem_addrs_g h))]; exact hx'.1, fun q hq => ⟨by rw [upd_ne (hin _ (mem_addrs_r h hq))]; exact (hx'.2 q hq).1, (hx'.2 q hq).2⟩⟩
    · obtain rfl : x = (g, rs ++ [(r, vs', ts')]) := by simpa using h
      have hx' := S.grp (g, rs ++ [(r, vs, ts)]) (List.mem_append_right _ List.mem_cons_self)
      refine ⟨?_, fun q hq => ?_⟩
      · rw [upd_ne hgr]
        show H g = some (.lst ((rs ++ [(r, vs', ts')]).map fun r => V.ref r.1))
        rw [show H g = _ from hx'.1, List.map_append, List.map_append]
        rfl
      · rcases List.mem_append.mp hq with h | h
        · have := hx'.2 q (List.mem_append_left _ h)
          exact ⟨by rw [upd_ne (hrs q h)]; exact this.1, this.2⟩
        · obtain rfl : q = (r, vs', ts') := by simpa using h
          exact ⟨upd_same, ht⟩
/-- a new row -/
theorem StAt.bar {g b : Addr} {rs : Rows} (S : StAt G H A (gs ++ [(g, rs)])) (hb : H b = none) : StAt G (upd (upd H b (.lst [])) g (.lst ((rs.map fun r => V.ref r.1) ++ [.ref b]))) A (gs ++ [(g, rs ++ [(b, [], [])])]) := by
  have al := S.alive
  have nb : ∀ c ∈ A :: addrs (gs ++ [(g, rs)]), c ≠ b := fun c hc z => al c hc (by rw [z]; exact hb)
  have ea : A :: addrs (gs ++ [(g, rs ++ [(b, [], [])])]) = (A :: addrs (gs ++ [(g, rs)])) ++ [b] := by
    rw [addrs_app, addrs_app, addrs_one, addrs_one, List.map_append]
    simp
  have nd := S.nd
  rw [addrs_app, addrs_one] at nd
  rw [List.nodup_cons, List.nodup_append, List.nodup_cons] at nd
  obtain ⟨n1, n2, ⟨n3, n4⟩, n7⟩ := nd
  have gm : g ∈ addrs (gs ++ [(g, rs)]) := mem_addrs_g (x := (g, rs)) (List.mem_append_right _ List.mem_cons_self)
  have hAg : A ≠ g := fun z => n1 (List.mem_append_right _ (by rw [z]; exact List.mem_cons_self))
  have hin : ∀ c ∈ addrs gs, c ≠ g := fun c hc => n7 c hc g List.mem_cons_self
  have hrs : ∀ q ∈ rs, q.1 ≠ g := fun q hq z => n3 (by rw [← z]; exact List.mem_map.mpr ⟨q, hq, rfl⟩)
  have hGg : G g = none := S.fr g (List.mem_cons_of_mem _ gm)
  have hGb : G b = none := by
    cases e : G b with
    | none => rfl
    | some o => rw [S.sG _ _ e] at hb; exact nomatch hb
  have old : ∀ c ∈ A :: addrs (gs ++ [(g, rs)]), c ≠ g → upd (upd H b (.lst [])) g (.lst ((rs.map fun r => V.ref r.1) ++ [.ref b])) c = H c := fun c hc hg => by
    rw [upd_ne hg, upd_ne (nb c hc)]
  refine ⟨fun c u h => ?_, ?_, fun x hx => ?_, ?_, ?_⟩
  · rw [upd_ne (fun z => by rw [z, hGg] at h; exact nomatch h), upd_ne (fun z => by rw [z, hGb] at h; exact nomatch h)]
    exact S.sG _ _ h
  · rw [old A List.mem_cons_self hAg, S.top, List.map_append, List.map_append]
    rfl
  · rcases List.mem_append.mp hx with h | h
    · have hx' := S.grp x (List.mem_append_left _ h)
      have m1 := mem_addrs_g (x := x) (List.mem_append_left [(g, rs)] h)
      refine ⟨by rw [old _ (List.mem_cons_of_mem _ m1) (hin _ (mem_addrs_g h))]; exact hx'.1, fun q hq => ⟨?_, (hx'.2 q hq).2⟩⟩
      rw [old _ (List.mem_cons_of_mem _ (mem_addrs_r (List.mem_append_left [(g, rs)] h) hq)) (hin _ (mem_addrs_r h hq))]
      exact (hx'.2 q hq).1
    · obtain rfl : x = (g, rs ++ [(b, [], [])]) := by simpa using h
      have hx' := S.grp (g, rs) (List.mem_append_right _ List.mem_cons_self)
      refine ⟨?_, fun q hq => ?_⟩
      · rw [upd_same, List.map_append]
        rfl
      · rcases List.mem_append.mp hq with h | h
        · have := hx'.2 q h
          refine ⟨?_, this.2⟩
          rw [old _ (List.mem_cons_of_mem _ (mem_addrs_r (x := (g, rs)) (List.mem_append_right _ List.mem_cons_self) h)) (hrs q h)]
          exact this.1
        · obtain rfl : q = (b, [], []) := by simpa using h
          have hbg : b ≠ g := fun z => nb g (List.mem_cons_of_mem _ gm) z.symm
          exact ⟨by rw [upd_ne hbg]; exact upd_same, .nil⟩
  · rw [ea, List.nodup_append]
    refine ⟨S.nd, by simp, fun c hc d hd => ?_⟩
    have : d = b := by simpa using hd
    rw [this]
    exact nb c hc
  · intro c hc
    rw [ea] at hc
    rcases List.mem_append.mp hc with h | h
    · exact S.fr c h
    · have : c = b := by simpa using h
      rw [this]
      exact hGb
/-- a new group -/
theorem StAt.open {a b : Addr} (S : StAt G H A gs) (ha : H a = none) (hb : upd H a (.lst []) b = none) : StAt G (upd (upd (upd H a (.lst [])) b (.lst [.ref a])) A (.lst ((gs.map fun x => V.ref x.1) ++ [.ref b]))) A (gs ++ [(b, [(a, [], [])])]) := by
  have al := S.alive
  have nba : b ≠ a := fun z => by rw [z, upd_same] at hb; exact nomatch hb
  have hb0 : H b = none := by rw [upd_ne nba] at hb; exact hb
  have na : ∀ c ∈ A :: addrs gs, c ≠ a := fun c hc z => al c hc (by rw [z]; exact ha)
  have nb : ∀ c ∈ A :: addrs gs, c ≠ b := fun c hc z => al c hc (by rw [z]; exact hb0)
  have ea : A :: addrs (gs ++ [(b, [(a, [], [])])]) = (A :: addrs gs) ++ [b, a] := by
    rw [addrs_app, addrs_one]
    rfl
  have hA := S.fr A List.mem_cons_self
  have nd := S.nd
  rw [List.nodup_cons] at nd
  have hG : ∀ {c}, H c = none → G c = none := fun {c} h => by
    cases e : G c with
    | none => rfl
    | some o => rw [S.sG _ _ e] at h; exact nomatch h
  have hGa := hG ha
  have hGb := hG hb0
  have old : ∀ c ∈ addrs gs, upd (upd (upd H a (.lst [])) b (.lst [.ref a])) A (.lst ((gs.map fun x => V.ref x.1) ++ [.ref b])) c = H c := fun c hc => by
    rw [upd_ne (fun z => nd.1 (by rw [← z]; exact hc)), upd_ne (nb c (List.mem_cons_of_mem _ hc)), upd_ne (na c (List.mem_cons_of_mem _ hc))]
  refine ⟨fun c u h => ?_, ?_, fun x hx => ?_, ?_, ?_⟩
  · rw [upd_ne (fun z => by rw [z, hA] at h; exact nomatch h), upd_ne (fun z => by rw [z, hGb] at h; exact nomatch h), upd_ne (fun z => by rw [z, hGa] at h; exact nomatch h)]
    exact S.sG _ _ h
  · rw [upd_same, List.map_append]
    rfl
  · rcases List.mem_append.mp hx with h | h
    · have hx' := S.grp x h
      exact ⟨by rw [old _ (mem_addrs_g h)]; exact hx'.1, fun q hq => ⟨by rw [old _ (mem_addrs_r h hq)]; exact (hx'.2 q hq).1, (hx'.2 q hq).2⟩⟩
    · obtain rfl : x = (b, [(a, [], [])]) := by simpa using h
      refine ⟨?_, fun q hq => ?_⟩
      · rw [upd_ne (fun z => nb A List.mem_cons_self z.symm)]
        exact upd_same
      · obtain rfl : q = (a, [], []) := by simpa using hq
        exact ⟨by rw [upd_ne (fun z => na A List.mem_cons_self z.symm), upd_ne nba.symm]; exact upd_same, .nil⟩
  · rw [ea, List.nodup_append]
    refine ⟨S.nd, by simp [nba], fun c hc d hd => ?_⟩
    simp only [List.mem_cons, List.not_mem_nil, or_false] at hd
    rcases hd with rfl | rfl
    · exact nb c hc
    · exact na c hc
  · intro c hc
    rw [ea] at hc
    rcases List.mem_append.mp hc with h | h
    · exact S.fr c h
    · simp only [List.mem_cons, List.not_mem_nil, or_false] at h
      rcases h with rfl | rfl
      · exact hGb
      · exact hGa
/-- the last group is taken off -/
theorem StAt.pop {x : Grp} (S : StAt G H A (gs ++ [x])) : StAt G (upd H A (.lst (gs.map fun x => V.ref x.1))) A gs ∧ (upd H A (.lst (gs.map fun x => V.ref x.1))) x.1 = some (.lst (x.2.map fun r => V.ref r.1)) ∧ RowsAt G (upd H A (.lst (gs.map fun x => V.ref x.1))) x.2 ∧ (x.2.map (·.1)).Nodup ∧ ∀ c ∈ A :: addrs gs, c ∉ x.2.map (·.1) := by
  have nd := S.nd
  obtain ⟨g, rs⟩ := x
  rw [addrs_app, addrs_one] at nd
  rw [List.nodup_cons, List.nodup_append, List.nodup_cons] at nd
  obtain ⟨n1, n2, ⟨n3, n4⟩, n7⟩ := nd
  have hA := S.fr A List.mem_cons_self
  have neA : ∀ c ∈ addrs (gs ++ [(g, rs)]), c ≠ A := fun c hc z => by
    rw [addrs_app, addrs_one] at hc
    exact n1 (by rw [← z]; exact hc)
  have hx' := S.grp (g, rs) (List.mem_append_right _ List.mem_cons_self)
  have gm : (g, rs) ∈ gs ++ [(g, rs)] := List.mem_append_right _ List.mem_cons_self
  refine ⟨⟨fun c u h => ?_, upd_same, fun x hx => ?_, ?_, fun c hc => ?_⟩, ?_, fun r hr => ⟨?_, ?_, (hx'.2 r hr).2⟩, n4, fun c hc hm => ?_⟩
  · rw [upd_ne (fun z => by rw [z, hA] at h; exact nomatch h)]
    exact S.sG _ _ h
  · have h1 := S.grp x (List.mem_append_left _ hx)
    have hx2 : x ∈ gs ++ [(g, rs)] := List.mem_append_left _ hx
    exact ⟨by rw [upd_ne (neA _ (mem_addrs_g hx2))]; exact h1.1, fun q hq => ⟨by rw [upd_ne (neA _ (mem_addrs_r hx2 hq))]; exact (h1.2 q hq).1, (h1.2 q hq).2⟩⟩
  · rw [List.nodup_cons]
    exact ⟨fun h => n1 (List.mem_append_left _ h), n2⟩
  · refine S.fr c ?_
    rw [addrs_app]
    rcases List.mem_cons.mp hc with rfl | h
    · exact List.mem_cons_self
    · exact List.mem_cons_of_mem _ (List.mem_append_left _ h)
  · rw [upd_ne (neA _ (mem_addrs_g gm))]
    exact hx'.1
  · exact S.fr r.1 (List.mem_cons_of_mem _ (mem_addrs_r gm hr))
  · rw [upd_ne (neA _ (mem_addrs_r gm hr))]
    exact (hx'.2 r hr).1
  · rcases List.mem_cons.mp hc with rfl | h
    · exact n1 (List.mem_append_right _ (List.mem_cons_of_mem _ hm))
    · exact n7 c h c (List.mem_cons_of_mem _ hm) rfl
end
end KT

namespace KT
open PySem L2 Gd
abbrev PG := List (List (List Tr))
def gv (gs : List Grp) : PG := gs.map fun x => x.2.map fun r => r.2.2
inductive Tk where
  | ch (c : Nat) | nm (x : Str)
def sgc (k : _root_.Fin 3) : Nat := if k = 0 then 42 else if k = 1 then 43 else 63
def NmOk (x : Str) : Prop := Tx 8 x ∧ 1 ≤ x.length ∧ x.cps.toList.all low = true
/-- a sign or a name moves the open groups on -/
inductive Stp : Nat → PG → Tk → Nat → PG → Prop
  | sgn {b : Nat} {P : PG} {D : List (List Tr)} {R : List Tr} {u : Tr} {k : _root_.Fin 3} : isSig b = false → b ≠ 124 → b ≠ 40 → Stp b (P ++ [D ++ [R ++ [u]]]) (.ch (sgc k)) (sgc k) (P ++ [D ++ [R ++ [.sgn k u]]])
  | opn {b : Nat} {P : PG} {D : List (List Tr)} {R : List Tr} : P.length < 20 → Stp b (P ++ [D ++ [R]]) (.ch 40) 40 (P ++ [D ++ [R]] ++ [[[]]])
  | cls {b : Nat} {P : PG} {D D2 : List (List Tr)} {R R2 : List Tr} : Stp b (P ++ [D ++ [R]] ++ [D2 ++ [R2]]) (.ch 41) 41 (P ++ [D ++ [R ++ [groupT (D2 ++ [R2])]]])
  | bar {b : Nat} {P : PG} {D : List (List Tr)} {R : List Tr} : Stp b (P ++ [D ++ [R]]) (.ch 124) 124 (P ++ [D ++ [R] ++ [[]]])
  | zero {b : Nat} {P : PG} {D : List (List Tr)} {R : List Tr} : Stp b (P ++ [D ++ [R]]) (.ch 48) 48 (P ++ [D ++ [R ++ [.none]]])
  | letter {b : Nat} {P : PG} {D : List (List Tr)} {R : List Tr} {c : Nat} : low c = true → Stp b (P ++ [D ++ [R]]) (.ch c) c (P ++ [D ++ [R ++ [.letter c]]])
  | name {b : Nat} {P : PG} {D : List (List Tr)} {R : List Tr} {x : Str} : NmOk x → Stp b (P ++ [D ++ [R]]) (.nm x) 60 (P ++ [D ++ [R ++ [.name x]]])
/-- sizes that no list passes -/
def Sz (P : PG) : Prop := P.length ≤ 100000 ∧ ∀ rows ∈ P, rows.length ≤ 100000 ∧ ∀ R ∈ rows, R.length ≤ 100000
def spRead : Sp := fun vs H Q _ => ∃ (G : Hp) (A : Addr) (gs : List Grp) (c b b' : Nat) (P' : PG), vs = [.ref A, .str ⟨#[c]⟩] ∧ StAt G H A gs ∧ Stp b (gv gs) (.ch c) b' P' ∧ Sz (gv gs) ∧ ∀ H' G' gs', Same G G' → StAt G' H' A gs' → gv gs' = P' → Q .non H'
theorem map_snoc {α β : Type} {f : α → β} {l : List α} {P : List β} {y : β} (h : l.map f = P ++ [y]) : ∃ l0 x, l = l0 ++ [x] ∧ l0.map f = P ∧ f x = y := by
  obtain ⟨l0, l1, rfl, h1, h2⟩ := List.map_eq_append_iff.mp h
  obtain ⟨x, rfl, h3⟩ := List.map_eq_singleton_iff.mp h2
  exact ⟨l0, x, rfl, h1, h3⟩
theorem atI_last {α : Type} {l : List α} {x : α} : atI (l ++ [x]) (-1) = some x := by
  unfold atI
  have e : ixN (l ++ [x]).length (-1) = some l.length := by
    rw [List.length_append]
    show ixN (l.length + 1) (-1) = some l.length
    unfold ixN
    simp
    constructor <;> omega
  rw [e]
  show (l ++ [x])[l.length]? = some x
  simp
/-- the open groups by their last row -/
theorem gv_last {gs : List Grp} {P : PG} {D : List (List Tr)} {R : List Tr} (h : gv gs = P ++ [D ++ [R]]) : ∃ gs0 g rs r vs, gs = gs0 ++ [(g, rs ++ [(r, vs, R)])] ∧ gv gs0 = P ∧ (rs.map fun r => r.2.2) = D := by
  obtain ⟨gs0, ⟨g, rs1⟩, rfl, h1, h2⟩ := map_snoc h
  obtain ⟨rs, ⟨r, vs, ts⟩, rfl, h3, h4⟩ := map_snoc (show (rs1.map fun r => r.2.2) = D ++ [R] from h2)
  have h5 : ts = R := h4
  subst h5
  exact ⟨gs0, g, rs, r, vs, rfl, h1, h3⟩
theorem gv_app (a b : List Grp) : gv (a ++ b) = gv a ++ gv b := List.map_append
theorem gv_row {gs : List Grp} {g r : Addr} {rs : Rows} {vs : List V} {R : List Tr} : gv (gs ++ [(g, rs ++ [(r, vs, R)])]) = gv gs ++ [(rs.map fun r => r.2.2) ++ [R]] := by
  show (gs ++ [(g, rs ++ [(r, vs, R)])]).map (fun x => x.2.map fun r => r.2.2) = _
  rw [List.map_append, List.map_cons, List.map_nil, List.map_append]
  rfl
theorem last_facts {G H : Hp} {A g r : Addr} {gs : List Grp} {rs : Rows} {vs : List V} {R : List Tr} {X : PG} (S : StAt G H A (gs ++ [(g, rs ++ [(r, vs, R)])])) (sz : Sz X) (hX : gv (gs ++ [(g, rs ++ [(r, vs, R)])]) = X) :
    H A = some (.lst (gs.map (fun x => V.ref x.1) ++ [V.ref g])) ∧ H g = some (.lst (rs.map (fun r => V.ref r.1) ++ [V.ref r])) ∧ H r = some (.lst vs) ∧ TrsAt G vs R ∧ vs.length ≤ 100000 := by
  have h1 := S.top
  rw [List.map_append] at h1
  have h2 := S.grp (g, rs ++ [(r, vs, R)]) (List.mem_append_right _ List.mem_cons_self)
  have h3 : H g = some (.lst ((rs ++ [(r, vs, R)]).map fun r => V.ref r.1)) := h2.1
  rw [List.map_append] at h3
  have h4 := h2.2 (r, vs, R) (List.mem_append_right _ List.mem_cons_self)
  refine ⟨h1, h3, h4.1, h4.2, ?_⟩
  have : vs.length = R.length := h4.2.length
  rw [this]
  rw [gv_row] at hX
  subst hX
  exact (sz.2 _ (List.mem_append_right _ List.mem_cons_self)).2 R (List.mem_append_right _ List.mem_cons_self)
theorem trs_snoc {H : Hp} : ∀ {vs : List V} {ts : List Tr} {u : Tr}, TrsAt H vs (ts ++ [u]) → ∃ vs0 v0, vs = vs0 ++ [v0] ∧ TrsAt H vs0 ts ∧ TrAt H v0 u
  | _, [], _, .cons h .nil => ⟨[], _, rfl, .nil, h⟩
  | _, _ :: ts, _, .cons h r => by
    obtain ⟨vs0, v0, e, a, b⟩ := trs_snoc (ts := ts) r
    exact ⟨_ :: vs0, v0, by rw [e]; rfl, .cons h a, b⟩
theorem ixN_last {α : Type} {l : List α} {x : α} : ixN (l ++ [x]).length (-1) = some l.length := by
  rw [List.length_append]
  show ixN (l.length + 1) (-1) = some l.length
  unfold ixN
  simp
  constructor <;> omega
theorem put_leaf {G H : Hp} {A g r e : Addr} {gs : List Grp} {rs : Rows} {vs vs' : List V} {R ts' : List Tr} {o : HO} (S : StAt G H A (gs ++ [(g, rs ++ [(r, vs, R)])])) (he : H e = none) (ht : TrsAt (upd G e o) vs' ts') :
    Same G (upd G e o) ∧ StAt (upd G e o) (upd (upd H e o) r (.lst vs')) A (gs ++ [(g, rs ++ [(r, vs', ts')])]) := by
  have hGe : G e = none := by
    cases e1 : G e with
    | none => rfl
    | some u => rw [S.sG _ _ e1] at he; exact nomatch he
  have sg : Same G (upd G e o) := fun c u h => by rw [upd_ne (ne_of_none h hGe)]; exact h
  have sh : Same H (upd H e o) := fun c u h => by rw [upd_ne (ne_of_none h he)]; exact h
  have al := S.alive
  have S1 : StAt (upd G e o) (upd H e o) A (gs ++ [(g, rs ++ [(r, vs, R)])]) := S.go sh sg (fun c u h => by
    by_cases z : c = e
    · rw [z, upd_same] at h ⊢
      exact h
    · rw [upd_ne z] at h ⊢
      exact S.sG _ _ h) (fun c hc => by
    rw [upd_ne (fun z => al c hc (by rw [z]; exact he))]
    exact S.fr c hc)
  exact ⟨sg, S1.row ht⟩
theorem add_leaf {G H : Hp} {A g r e : Addr} {gs : List Grp} {rs : Rows} {vs : List V} {R : List Tr} {o : HO} {t : Tr} (S : StAt G H A (gs ++ [(g, rs ++ [(r, vs, R)])])) (he : H e = none) (ht : TrAt (upd G e o) (.ref e) t) :
    Same G (upd G e o) ∧ StAt (upd G e o) (upd (upd H e o) r (.lst (vs ++ [.ref e]))) A (gs ++ [(g, rs ++ [(r, vs ++ [.ref e], R ++ [t])])]) := by
  have hGe : G e = none := by
    cases e1 : G e with
    | none => rfl
    | some u => rw [S.sG _ _ e1] at he; exact nomatch he
  have sg : Same G (upd G e o) := fun c u h => by rw [upd_ne (ne_of_none h hGe)]; exact h
  have sh : Same H (upd H e o) := fun c u h => by rw [upd_ne (ne_of_none h he)]; exact h
  have al := S.alive
  have S1 : StAt (upd G e o) (upd H e o) A (gs ++ [(g, rs ++ [(r, vs, R)])]) := S.go sh sg (fun c u h => by
    by_cases z : c = e
    · rw [z, upd_same] at h ⊢
      exact h
    · rw [upd_ne z] at h ⊢
      exact S.sG _ _ h) (fun c hc => by
    rw [upd_ne (fun z => al c hc (by rw [z]; exact he))]
    exact S.fr c hc)
  have h4 := (S.grp (g, rs ++ [(r, vs, R)]) (List.mem_append_right _ List.mem_cons_self)).2 (r, vs, R) (List.mem_append_right _ List.mem_cons_self)
  exact ⟨sg, S1.row (trs_append (h4.2.same sg) (.cons ht .nil))⟩
section
variable {P : Program} {w : World} {K : PySem.W.Frag} {mg : Str → Option Value} {base : Heap} {aS aL aK : Addr} {es eK : Array DictEntry} {n nK : Nat}
abbrev sread_mark : Stmt := top 26
theorem scread_mark : FnScope ["groups", "mark", "items", "tree"] ["groups", "mark"] (defScope sread_mark) := ⟨rfl, rfl, rfl, by decide +kernel, rfl, by decide +kernel, by decide +kernel⟩
theorem ok_read {f f1 : Addr} {fd fd1 : FuncData} (F : Fun K "read_mark" "read_mark" sread_mark f fd) (TP : TxP w K mg aK eK nK)
    (D_group_tree : Df P w K mg base CX0 2 "group_tree" f1 fd1 ["rows"] spGroup) : FnG P w K mg base CX0 3 f fd ["groups", "mark"] spRead := by
  refine okG F scread_mark (fun vs H Q E h => ?_) (fun cdv A outer s H vs Q E hc hr h => ?_)
  · obtain ⟨G, A, gs, c, b, b', P', rfl, _⟩ := h
    rfl
  obtain ⟨G, Ag, gs, c, b, b', P', rfl, S, st, sz, q⟩ := h
  refine ⟨_, (pss_cons (ps_set (i := 2) scread_mark.nd rfl (Or.inl rfl) (pe_ix ix_list (pe_ix ix_list (pv 0) (pe_un un_neg pe_int) (fun _ _ => rfl)) (pe_un un_neg pe_int) (fun _ _ => rfl)))
 (pss_one (ps_if (pt_cmpR (op_in_kd TP.d_KINDS_BY_SIGN) (pv 1) (pe_k (by rfl) TP.g_KINDS_BY_SIGN) (by rfl))
  (pss_one (ps_asg (pe_tup (pa_cons (pe_ix (ix_kd TP.d_KINDS_BY_SIGN) (pe_k (by rfl) TP.g_KINDS_BY_SIGN) (pv 1) (fun _ _ => rfl)) (pa_cons (pe_ix ix_list (pv 2) (pe_un un_neg pe_int) (fun _ _ => rfl)) pa_nil))) (pg_sub (pv 2) (pe_un un_neg pe_int) set_list))) (pss_one (ps_if (pt_cmpR op_eq (pv 1) pe_str (nomark _))
  (pss_one (ps_expr (pe_bm PySem.F.plainAttrs_list PySem.F.slot_list_append PySem.F.type_list_append mt_append (pv 0) (pa_cons (pe_lst (pa_cons (pe_lst pa_nil) pa_nil)) pa_nil)))) (pss_one (ps_if (pt_cmpR op_eq (pv 1) pe_str (nomark _))
  (pss_cons (ps_set (i := 3) scread_mark.nd rfl (Or.inl rfl) (pe_d D_group_tree hc (hr.mono (by omega)) (by rfl) (fun _ => passN) (pa_cons (pe_bm0 PySem.F.plainAttrs_list PySem.F.slot_list_pop PySem.F.type_list_pop mt_pop (pv 0)) pa_nil)))
 (pss_one (ps_expr (pe_bm PySem.F.plainAttrs_list PySem.F.slot_list_append PySem.F.type_list_append mt_append (pe_ix ix_list (pe_ix ix_list (pv 0) (pe_un un_neg pe_int) (fun _ _ => rfl)) (pe_un un_neg pe_int) (fun _ _ => rfl)) (pa_cons (pv 3) pa_nil))))) (pss_one (ps_if (pt_cmpR op_eq (pv 1) pe_str (nomark _))
  (pss_one (ps_expr (pe_bm PySem.F.plainAttrs_list PySem.F.slot_list_append PySem.F.type_list_append mt_append (pe_ix ix_list (pv 0) (pe_un un_neg pe_int) (fun _ _ => rfl)) (pa_cons (pe_lst pa_nil) pa_nil)))) (pss_one (ps_if (pt_cmpR op_eq (pv 1) pe_str (nomark _))
  (pss_one (ps_expr (pe_bm PySem.F.plainAttrs_list PySem.F.slot_list_append PySem.F.type_list_append mt_append (pv 2) (pa_cons (pe_tup (pa_cons pe_str pa_nil)) pa_nil)))) (pss_one (ps_expr (pe_bm PySem.F.plainAttrs_list PySem.F.slot_list_append PySem.F.type_list_append mt_append (pv 2) (pa_cons (pe_tup (pa_cons pe_str (pa_cons (pv 1) pa_nil))) pa_nil))))))))))))))), ?_⟩
  have z16 := sizeLine_eq
  have e40 := fun x => sgEq x (Str.ofString "(") 40 (by decide +kernel)
  have e41 := fun x => sgEq x (Str.ofString ")") 41 (by decide +kernel)
  have e124 := fun x => sgEq x (Str.ofString "|") 124 (by decide +kernel)
  have e48 := fun x => sgEq x (Str.ofString "0") 48 (by decide +kernel)
  obtain ⟨rr, hr1, hr2⟩ := TP.i_KINDS_BY_SIGN c
  generalize hX : gv gs = X at st sz
  cases st with
  | @letter P0 D R _ lc =>
    obtain ⟨gs0, g, rs, r, vs, rfl, hP, hD⟩ := gv_last hX
    obtain ⟨hT, hg, hr', hts, szr⟩ := last_facts S sz hX
    have lc' := lc
    unfold low at lc'
    rw [Bool.and_eq_true, decide_eq_true_eq, decide_eq_true_eq] at lc'
    refine ⟨_, rfl, 1, rfl, Ag, _, _, _, rfl, rfl, SqL.of hT, atI_last, 1, rfl, g, _, _, _, rfl, rfl, SqL.of hg, atI_last, ?_⟩
    refine ⟨_, rfl, _, rr, rfl, rfl, hr1, _, rfl, ?_⟩
    rw [hr2]
    refine iteB (fun c1 => absurd c1 (by unfold isSig; simp; omega)) (fun _ => ?_)
    refine ⟨_, rfl, rfl, _, rfl, ?_⟩
    rw [e40]
    refine iteB (fun c1 => absurd (of_decide_eq_true c1) (by omega)) (fun _ => ?_)
    refine ⟨_, rfl, rfl, _, rfl, ?_⟩
    rw [e41]
    refine iteB (fun c1 => absurd (of_decide_eq_true c1) (by omega)) (fun _ => ?_)
    refine ⟨_, rfl, rfl, _, rfl, ?_⟩
    rw [e124]
    refine iteB (fun c1 => absurd (of_decide_eq_true c1) (by omega)) (fun _ => ?_)
    refine ⟨_, rfl, rfl, _, rfl, ?_⟩
    rw [e48]
    refine iteB (fun c1 => absurd (of_decide_eq_true c1) (by omega)) (fun _ => ?_)
    refine ⟨_, rfl, .inl ⟨rfl, _, SqL.of hr'⟩, _, rfl, by show 2 ≤ sizeLine; omega, fun e he => ⟨r, vs, _, rfl, rfl, by rw [upd_ne (ne_of_none hr' he)]; exact hr', by omega, ?_⟩⟩
    obtain ⟨a1, a2⟩ := add_leaf (t := .letter c) S he (.letter upd_same)
    exact q _ _ _ a1 a2 (by rw [gv_row, hP, hD])
  | @zero P0 D R =>
    obtain ⟨gs0, g, rs, r, vs, rfl, hP, hD⟩ := gv_last hX
    obtain ⟨hT, hg, hr', hts, szr⟩ := last_facts S sz hX
    refine ⟨_, rfl, 1, rfl, Ag, _, _, _, rfl, rfl, SqL.of hT, atI_last, 1, rfl, g, _, _, _, rfl, rfl, SqL.of hg, atI_last, ?_⟩
    refine ⟨_, rfl, _, rr, rfl, rfl, hr1, _, rfl, ?_⟩
    rw [hr2]
    refine iteB (fun c1 => absurd c1 (by decide)) (fun _ => ?_)
    refine ⟨_, rfl, rfl, _, rfl, ?_⟩
    rw [e40]
    refine iteB (fun c1 => absurd c1 (by decide)) (fun _ => ?_)
    refine ⟨_, rfl, rfl, _, rfl, ?_⟩
    rw [e41]
    refine iteB (fun c1 => absurd c1 (by decide)) (fun _ => ?_)
    refine ⟨_, rfl, rfl, _, rfl, ?_⟩
    rw [e124]
    refine iteB (fun c1 => absurd c1 (by decide)) (fun _ => ?_)
    refine ⟨_, rfl, rfl, _, rfl, ?_⟩
    rw [e48]
    refine iteB (fun _ => ?_) (fun c1 => absurd c1 (by decide))
    refine ⟨_, rfl, .inl ⟨rfl, _, SqL.of hr'⟩, by show 1 ≤ sizeLine; omega, fun e he => ⟨r, vs, _, rfl, rfl, by rw [upd_ne (ne_of_none hr' he)]; exact hr', by omega, ?_⟩⟩
    obtain ⟨a1, a2⟩ := add_leaf (t := .none) S he (.none upd_same)
    exact q _ _ _ a1 a2 (by rw [gv_row, hP, hD])
  | @bar P0 D R =>
    obtain ⟨gs0, g, rs, r, vs, rfl, hP, hD⟩ := gv_last hX
    obtain ⟨hT, hg, hr', hts, szr⟩ := last_facts S sz hX
    refine ⟨_, rfl, 1, rfl, Ag, _, _, _, rfl, rfl, SqL.of hT, atI_last, 1, rfl, g, _, _, _, rfl, rfl, SqL.of hg, atI_last, ?_⟩
    refine ⟨_, rfl, _, rr, rfl, rfl, hr1, _, rfl, ?_⟩
    rw [hr2]
    refine iteB (fun c1 => absurd c1 (by decide)) (fun _ => ?_)
    refine ⟨_, rfl, rfl, _, rfl, ?_⟩
    rw [e40]
    refine iteB (fun c1 => absurd c1 (by decide)) (fun _ => ?_)
    refine ⟨_, rfl, rfl, _, rfl, ?_⟩
    rw [e41]
    refine iteB (fun c1 => absurd c1 (by decide)) (fun _ => ?_)
    refine ⟨_, rfl, rfl, _, rfl, ?_⟩
    rw [e124]
    refine iteB (fun _ => ?_) (fun c1 => absurd c1 (by decide))
    have lrs : rs.length + 1 ≤ 100000 := by
      have := (sz.2 (D ++ [R]) (List.mem_append_right _ List.mem_cons_self)).1
      rw [List.length_append, ← hD, List.length_map] at this
      exact this
    refine ⟨_, rfl, 1, rfl, Ag, _, _, _, rfl, rfl, SqL.of hT, atI_last, .inl ⟨rfl, _, SqL.of hg⟩, by show 0 ≤ sizeLine; omega, fun e he => ⟨g, _, _, rfl, rfl, by rw [upd_ne (ne_of_none hg he)]; exact hg, by rw [List.length_append, List.length_map]; show rs.length + 1 < sizeLine; omega, ?_⟩⟩
    have b1 := S.bar he
    rw [List.map_append] at b1
    exact q _ _ _ (Same.refl G) b1 (by
      rw [gv_app, hP]
      show P0 ++ [((rs ++ [(r, vs, R)]) ++ [(e, [], [])]).map (fun r : Addr × List V × List Tr => r.2.2)] = _
      rw [List.map_append, List.map_append, hD]
      rfl)
  | @opn P0 D R l20 =>
    obtain ⟨gs0, g, rs, r, vs, rfl, hP, hD⟩ := gv_last hX
    obtain ⟨hT, hg, hr', hts, szr⟩ := last_facts S sz hX
    refine ⟨_, rfl, 1, rfl, Ag, _, _, _, rfl, rfl, SqL.of hT, atI_last, 1, rfl, g, _, _, _, rfl, rfl, SqL.of hg, atI_last, ?_⟩
    refine ⟨_, rfl, _, rr, rfl, rfl, hr1, _, rfl, ?_⟩
    rw [hr2]
    refine iteB (fun c1 => absurd c1 (by decide)) (fun _ => ?_)
    refine ⟨_, rfl, rfl, _, rfl, ?_⟩
    rw [e40]
    refine iteB (fun _ => ?_) (fun c1 => absurd c1 (by decide))
    have lgs : gs0.length ≤ 20 := by
      have : (gv gs0).length = P0.length := by rw [hP]
      rw [show (gv gs0).length = gs0.length from List.length_map _] at this
      omega
    refine ⟨_, rfl, .inl ⟨rfl, _, SqL.of hT⟩, by show 0 ≤ sizeLine; omega, fun e he => ⟨by show 1 ≤ sizeLine; omega, fun e2 he2 => ⟨Ag, gs0.map (fun x => V.ref x.1) ++ [V.ref g], _, rfl, rfl, ?_, ?_, ?_⟩⟩⟩
    · have h1 : (upd H e (.lst [])) Ag = some (.lst (gs0.map (fun x => V.ref x.1) ++ [V.ref g])) := by rw [upd_ne (ne_of_none hT he)]; exact hT
      rw [upd_ne (ne_of_none h1 he2)]
      exact h1
    · rw [List.length_append, List.length_map]
      show gs0.length + 1 < sizeLine
      omega
    · have b1 := S.open he he2
      rw [List.map_append] at b1
      exact q _ _ _ (Same.refl G) b1 (by
        rw [gv_app, hX]
        rfl)
  | @sgn P0 D R u k nb1 nb2 nb3 =>
    obtain ⟨gs0, g, rs, r, vs, rfl, hP, hD⟩ := gv_last hX
    obtain ⟨hT, hg, hr', hts, szr⟩ := last_facts S sz hX
    have al : ∀ k : _root_.Fin 3, isSig (sgc k) = true := by decide
    have ek : ∀ k : _root_.Fin 3, sgTx k = ⟨#[sgc k]⟩ := by decide +kernel
    obtain ⟨vs0, v0, rfl, t1, t2⟩ := trs_snoc hts
    obtain ⟨u0, hu0, ru0⟩ := TP.v_KINDS_BY_SIGN k
    rw [ek] at hu0
    refine ⟨_, rfl, 1, rfl, Ag, _, _, _, rfl, rfl, SqL.of hT, atI_last, 1, rfl, g, _, _, _, rfl, rfl, SqL.of hg, atI_last, ?_⟩
    refine ⟨_, rfl, _, rr, rfl, rfl, hr1, _, rfl, ?_⟩
    rw [hr2]
    refine iteB (fun _ => ?_) (fun c1 => absurd c1 (by rw [al]; exact Bool.noConfusion))
    refine ⟨_, rfl, _, u0, _, rfl, rfl, hu0, ru0, _, rfl, 1, rfl, r, _, _, _, rfl, rfl, SqL.of hr', atI_last, by show 2 ≤ sizeLine; omega, fun e he => ?_⟩
    refine ⟨_, rfl, 1, rfl, r, vs0 ++ [v0], -1, vs0.length, rfl, rfl, by rw [upd_ne (ne_of_none hr' he)]; exact hr', ixN_last, ?_⟩
    have es : (vs0 ++ [v0]).set vs0.length (.ref e) = vs0 ++ [.ref e] := by simp
    rw [es]
    have hGe : G e = none := by
      cases e1 : G e with
      | none => rfl
      | some u => rw [S.sG _ _ e1] at he; exact nomatch he
    have sg : Same G (upd G e (.tup [.str (sSgn k), v0])) := fun c u h => by rw [upd_ne (ne_of_none h hGe)]; exact h
    obtain ⟨a1, a2⟩ := put_leaf (o := .tup [.str (sSgn k), v0]) (vs' := vs0 ++ [.ref e]) (ts' := R ++ [.sgn k u]) S he (trs_append (t1.same sg) (.cons (.sgn upd_same (t2.same sg)) .nil))
    exact q _ _ _ a1 a2 (by rw [gv_row, hP, hD])
  | @cls P0 D D2 R R2 =>
    obtain ⟨gs1, g2, rs2, r2, vs2, rfl, hP2, hD2⟩ := gv_last hX
    obtain ⟨hT, hg, hr', hts, szr⟩ := last_facts S sz hX
    refine ⟨_, rfl, 1, rfl, Ag, _, _, _, rfl, rfl, SqL.of hT, atI_last, 1, rfl, g2, _, _, _, rfl, rfl, SqL.of hg, atI_last, ?_⟩
    refine ⟨_, rfl, _, rr, rfl, rfl, hr1, _, rfl, ?_⟩
    rw [hr2]
    refine iteB (fun c1 => absurd c1 (by decide)) (fun _ => ?_)
    refine ⟨_, rfl, rfl, _, rfl, ?_⟩
    rw [e40]
    refine iteB (fun c1 => absurd c1 (by decide)) (fun _ => ?_)
    refine ⟨_, rfl, rfl, _, rfl, ?_⟩
    rw [e41]
    refine iteB (fun _ => ?_) (fun c1 => absurd c1 (by decide))
    obtain ⟨gs0, g, rs, r, vs, rfl, hP, hD⟩ := gv_last hP2
    have lrs : rs2.length + 1 ≤ 100000 := by
      have := (sz.2 (D2 ++ [R2]) (List.mem_append_right _ List.mem_cons_self)).1
      rw [List.length_append, ← hD2, List.length_map] at this
      exact this
    have sR : R.length ≤ 100000 := (sz.2 (D ++ [R]) (List.mem_append_left _ (List.mem_append_right _ List.mem_cons_self))).2 R (List.mem_append_right _ List.mem_cons_self)
    obtain ⟨S1, p1, p2, p3, p4⟩ := S.pop
    have eg : (((gs0 ++ [(g, rs ++ [(r, vs, R)])]).map (fun x => V.ref x.1)) ++ [V.ref g2])[(((gs0 ++ [(g, rs ++ [(r, vs, R)])]).map (fun x => V.ref x.1)) ++ [V.ref g2]).length - 1]? = some (.ref g2) := by simp
    have ed : (((gs0 ++ [(g, rs ++ [(r, vs, R)])]).map (fun x => V.ref x.1)) ++ [V.ref g2]).dropLast = (gs0 ++ [(g, rs ++ [(r, vs, R)])]).map (fun x => V.ref x.1) := by simp
    refine ⟨_, rfl, .inl ⟨rfl, _, SqL.of hT⟩, Ag, _, .ref g2, rfl, rfl, hT, eg, ?_⟩
    rw [ed]
    refine ⟨G, g2, rs2 ++ [(r2, vs2, R2)], rfl, S1.sG, p1, p2, p3, by simp, by rw [List.length_append]; exact lrs, fun v H' sH sl => ?_⟩
    obtain ⟨G', a1, a2, a3, a4⟩ := sl
    have al1 := S1.alive
    have S2 : StAt G' H' Ag (gs0 ++ [(g, rs ++ [(r, vs, R)])]) := S1.go sH a1 a2 (fun c hc => by
      cases e1 : G' c with
      | none => rfl
      | some o =>
        exfalso
        rcases a4 c (S1.fr c hc) (by rw [e1]; exact fun z => nomatch z) with h | h
        · exact p4 c hc h
        · exact al1 c hc h)
    have f1 := S2.top
    rw [List.map_append] at f1
    have f2 := S2.grp (g, rs ++ [(r, vs, R)]) (List.mem_append_right _ List.mem_cons_self)
    have f3 : H' g = some (.lst ((rs ++ [(r, vs, R)]).map fun r => V.ref r.1)) := f2.1
    rw [List.map_append] at f3
    have f4 := f2.2 (r, vs, R) (List.mem_append_right _ List.mem_cons_self)
    have lv : vs.length = R.length := f4.2.length
    refine ⟨_, rfl, 1, rfl, Ag, _, _, _, rfl, rfl, SqL.of f1, atI_last, 1, rfl, g, _, _, _, rfl, rfl, SqL.of f3, atI_last, .inl ⟨rfl, _, SqL.of f4.1⟩, _, rfl, r, vs, _, rfl, rfl, f4.1, by omega, ?_⟩
    have e3 : (rs2 ++ [(r2, vs2, R2)]).map (fun r => r.2.2) = D2 ++ [R2] := by
      rw [List.map_append, hD2]
      rfl
    rw [e3] at a3
    exact q _ _ _ a1 (S2.row (trs_append f4.2 (.cons a3 .nil))) (by rw [gv_row, hP, hD])
end
end KT

namespace KT
open PySem L2 Gd
def tkL : Tk → List Nat
  | .ch c => [c]
  | .nm x => 60 :: (x.cps.toList ++ [62])
inductive Run : Nat → PG → List Tk → Nat → PG → Prop
  | nil {b : Nat} {P : PG} : Run b P [] b P
  | cons {b b1 b2 : Nat} {P P1 P2 : PG} {t : Tk} {ts : List Tk} : Sz P → Stp b P t b1 P1 → Run b1 P1 ts b2 P2 → Run b P (t :: ts) b2 P2
def spParse : Sp := fun vs H Q _ => ∃ (z : Str) (toks : List Tk) (b' : Nat) (D : List (List Tr)) (R : List Tr), vs = [.str z] ∧ z.cps.toList = toks.flatMap tkL ∧ z.length ≤ 100000 ∧ Run 40 [[[]]] toks b' [D ++ [R]] ∧ Sz [D ++ [R]] ∧ ∀ v H', Same H H' → TrAt H' v (groupT (D ++ [R])) → Q v H'
/-- what a sign's step says of the sign -/
theorem may_of {b c b' : Nat} {P P' : PG} (s : Stp b P (.ch c) b' P') : mayF c b ((P.length : Int) - 1) = true ∧ c < 128 ∧ c ≠ 60 ∧ b' = c := by
  have sg : ∀ k : _root_.Fin 3, isSig (sgc k) = true ∧ sgc k < 128 ∧ sgc k ≠ 60 := by decide
  cases s with
  | @sgn P D R u k n1 n2 n3 =>
    refine ⟨?_, (sg k).2.1, (sg k).2.2, rfl⟩
    unfold mayF
    rw [(sg k).1, if_pos rfl, n1, decide_eq_false n2, decide_eq_false n3]
    rfl
  | @opn P D R l =>
    refine ⟨?_, by decide, by decide, rfl⟩
    have h : mayF 40 b (((P ++ [D ++ [R]]).length : Int) - 1) = decide ((((P ++ [D ++ [R]]).length : Int) - 1) < 20) := rfl
    rw [h, List.length_append]
    exact decide_eq_true (by show ((P.length + 1 : Nat) : Int) - 1 < 20; omega)
  | @cls P D D2 R R2 =>
    refine ⟨?_, by decide, by decide, rfl⟩
    have h : mayF 41 b (((P ++ [D ++ [R]] ++ [D2 ++ [R2]]).length : Int) - 1) = decide (0 < (((P ++ [D ++ [R]] ++ [D2 ++ [R2]]).length : Int) - 1)) := rfl
    rw [h, List.length_append, List.length_append]
    exact decide_eq_true (by show 0 < ((P.length + 1 + 1 : Nat) : Int) - 1; omega)
  | @bar P D R => exact ⟨rfl, by decide, by decide, rfl⟩
  | @zero P D R => exact ⟨rfl, by decide, by decide, rfl⟩
  | @letter P D R _ l =>
    have l' := l
    unfold low at l'
    rw [Bool.and_eq_true, decide_eq_true_eq, decide_eq_true_eq] at l'
    refine ⟨?_, by omega, by omega, rfl⟩
    unfold mayF
    have h1 : isSig c = false := by
      unfold isSig
      rw [decide_eq_false (by omega), decide_eq_false (by omega), decide_eq_false (by omega)]
      rfl
    rw [h1, if_neg Bool.false_ne_true, decide_eq_false (by omega), if_neg Bool.false_ne_true, decide_eq_false (by omega), if_neg Bool.false_ne_true, l, Bool.or_true, Bool.or_true]
theorem start_st {H : Hp} {a b A : Addr} (ha : H a = none) (hb : upd H a (HO.lst []) b = none) (hA : upd (upd H a (HO.lst [])) b (HO.lst [V.ref a]) A = none) :
    StAt H (upd (upd (upd H a (HO.lst [])) b (HO.lst [V.ref a])) A (HO.lst [V.ref b])) A [(b, [(a, [], [])])] := by
  have nba : b ≠ a := fun z => by rw [z, upd_same] at hb; exact nomatch hb
  have hb0 : H b = none := by rw [upd_ne nba] at hb; exact hb
  have nAb : A ≠ b := fun z => by rw [z, upd_same] at hA; exact nomatch hA
  rw [upd_ne nAb] at hA
  have nAa : A ≠ a := fun z => by rw [z, upd_same] at hA; exact nomatch hA
  rw [upd_ne nAa] at hA
  refine ⟨fun c u h => ?_, upd_same, fun x hx => ?_, ?_, fun c hc => ?_⟩
  · rw [upd_ne (ne_of_none h hA), upd_ne (ne_of_none h hb0), upd_ne (ne_of_none h ha)]
    exact h
  · obtain rfl : x = (b, [(a, [], [])]) := by simpa using hx
    refine ⟨?_, fun q hq => ?_⟩
    · rw [upd_ne nAb.symm]
      exact upd_same
    · obtain rfl : q = (a, [], []) := by simpa using hq
      exact ⟨by rw [upd_ne nAa.symm, upd_ne nba.symm]; exact upd_same, .nil⟩
  · show [A, b, a].Nodup
    simp [nAb, nAa, nba]
  · have hc' : c ∈ [A, b, a] := hc
    simp only [List.mem_cons, List.not_mem_nil, or_false] at hc'
    rcases hc' with rfl | rfl | rfl
    · exact hA
    · exact hb0
    · exact ha
theorem gv_len (gs : List Grp) : (gv gs).length = gs.length := List.length_map _
theorem tops {G H : Hp} {A : Addr} {gs : List Grp} (S : StAt G H A gs) : ∃ xs, H A = some (.lst xs) ∧ xs.length = gs.length := ⟨_, S.top, List.length_map _⟩
theorem cut_mid {z x : Str} {pre post : List Nat} (h : z.cps.toList = pre ++ 60 :: (x.cps.toList ++ 62 :: post)) : cutS z (some ((pre.length : Nat) + 1 : Int)) (some ((pre.length + 1 + x.length : Nat) : Int)) = x := by
  have lz : z.length = pre.length + 1 + x.length + 1 + post.length := by
    rw [Gd.len_list, h, List.length_append, List.length_cons, List.length_append, List.length_cons, ← Gd.len_list]
    omega
  have e : (cutS z (some ((pre.length : Nat) + 1 : Int)) (some ((pre.length + 1 + x.length : Nat) : Int))).cps.toList = x.cps.toList := by
    show (z.cps.toList.drop (HT.sIx z.length 0 (some (((pre.length + 1 : Nat)) : Int)))).take (HT.sIx z.length z.length (some ((pre.length + 1 + x.length : Nat) : Int)) - HT.sIx z.length 0 (some ((pre.length + 1 : Nat) : Int))) = _
    rw [HT.sIx_nat, HT.sIx_nat, Nat.min_eq_left (by omega), Nat.min_eq_left (by omega), h]
    have d : (pre ++ 60 :: (x.cps.toList ++ 62 :: post)).drop (pre.length + 1) = x.cps.toList ++ 62 :: post := by
      rw [← List.drop_drop, List.drop_left]
      rfl
    rw [d, show pre.length + 1 + x.length - (pre.length + 1) = x.cps.toList.length by rw [← Gd.len_list]; omega, List.take_left]
  have e2 : (cutS z (some ((pre.length : Nat) + 1 : Int)) (some ((pre.length + 1 + x.length : Nat) : Int))).cps = x.cps := Array.ext' e
  cases x
  rw [← Str.mk.injEq] at e2
  exact e2
section
variable {P : Program} {w : World} {K : PySem.W.Frag} {mg : Str → Option Value} {base : Heap} {aS aL aK C_E f_E C_T f_T : Addr} {es eK : Array DictEntry} {n nK : Nat}
abbrev sparse_expression : Stmt := top 24
theorem scparse_expression : FnScope ["text", "groups", "before", "index", "mark", "end"] ["text"] (defScope sparse_expression) := ⟨rfl, rfl, rfl, by decide +kernel, rfl, by decide +kernel, by decide +kernel⟩
theorem ok_parse {f f1 f2 f3 f4 : Addr} {fd fd1 fd2 fd3 fd4 : FuncData} (F : Fun K "parse_expression" "parse_expression" sparse_expression f fd) (T : Txt w K mg base aS aL es n)
    (D_name_end : Df P w K mg base (L2.CX P w) 2 "name_end" f1 fd1 ["text", "start"] spEnd) (D_may_follow : Df P w K mg base CX0 2 "may_follow" f2 fd2 ["mark", "before", "depth"] spMay)
    (D_read_mark : Df P w K mg base CX0 3 "read_mark" f3 fd3 ["groups", "mark"] spRead) (D_group_tree : Df P w K mg base CX0 2 "group_tree" f4 fd4 ["rows"] spGroup) :
    FnG P w K mg base (L2.CX P w) 4 f fd ["text"] spParse := by
  refine okG F scparse_expression (fun vs H Q E h => ?_) (fun cdv A outer s H vs Q E hc hr h => ?_)
  · obtain ⟨z, toks, b', D, R, rfl, _⟩ := h
    rfl
  obtain ⟨z, toks, b', D, R, rfl, hz, hzl, hrun, hsz, q⟩ := h
  refine ⟨_, (pss_cons (ps_if (pt_not (pt_val (pe_callB call_isk (by rfl) T.z_isinstance (by decide +kernel) (pa_cons (pv 0) (pa_cons (pe_bltn (v := .ty "str") (by rfl) T.z_str (by decide +kernel) rfl) pa_nil)))))
  (pss_one ps_never) pss_nil)
 (pss_cons (ps_set (i := 1) scparse_expression.nd rfl (Or.inl rfl) (pe_lst (pa_cons (pe_lst (pa_cons (pe_lst pa_nil) pa_nil)) pa_nil)))
 (pss_cons (ps_set (i := 2) scparse_expression.nd rfl (Or.inl rfl) pe_str)
 (pss_cons (ps_set (i := 3) scparse_expression.nd rfl (Or.inl rfl) pe_int)
 (pss_cons (ps_while (passes_of rfl) (pt_cmpR op_lt (pv 3) (pe_callB call_len_str (by rfl) T.z_len (by decide +kernel) (pa_cons (pv 0) pa_nil)) (nomark _))
  (pss_cons (ps_set (i := 4) scparse_expression.nd rfl (Or.inl rfl) (pe_ix ix_str (pv 0) (pv 3) (fun _ _ => rfl)))
 (pss_cons (ps_if (pt_cmpR op_eq (pv 4) pe_str (nomark _))
  (pss_cons (ps_set (i := 5) scparse_expression.nd rfl (Or.inl rfl) (pe_d D_name_end hc (hr.mono (by omega)) (by rfl) (fun _ => passM) (pa_cons (pv 0) (pa_cons (pv 3) pa_nil))))
 (pss_cons (ps_expr (pe_bm PySem.F.plainAttrs_list PySem.F.slot_list_append PySem.F.type_list_append mt_append (pe_ix ix_list (pe_ix ix_list (pv 1) (pe_un un_neg pe_int) (fun _ _ => rfl)) (pe_un un_neg pe_int) (fun _ _ => rfl)) (pa_cons (pe_tup (pa_cons pe_str (pa_cons (pe_slice sl_str (pv 0) (po_some (pe_op op_add (pv 3) pe_int)) (po_some (pv 5))) pa_nil))) pa_nil)))
 (pss_one (ps_set (i := 3) scparse_expression.nd rfl (Or.inl rfl) (pv 5))))) (pss_one (ps_if (pt_val (pe_d D_may_follow hc (hr.mono (by omega)) (by rfl) (fun _ => passN) (pa_cons (pv 4) (pa_cons (pv 2) (pa_cons (pe_op op_sub (pe_callB call_len_seq (by rfl) T.z_len (by decide +kernel) (pa_cons (pv 1) pa_nil)) pe_int) pa_nil)))))
  (pss_one (ps_expr (pe_d D_read_mark hc (hr.mono (by omega)) (by rfl) (fun _ => passN) (pa_cons (pv 1) (pa_cons (pv 4) pa_nil))))) (pss_one ps_never))))
 (pss_cons (ps_set (i := 2) scparse_expression.nd rfl (Or.inl rfl) (pv 4))
 (pss_one (ps_aug (i := 3) scparse_expression.nd rfl (Or.inl rfl) pe_int ip_add))))))
 (pss_cons (ps_if (pt_cmpR op_gt (pe_callB call_len_seq (by rfl) T.z_len (by decide +kernel) (pa_cons (pv 1) pa_nil)) pe_int (nomark _))
  (pss_one ps_never) pss_nil)
 (pss_one (ps_ret (pe_d D_group_tree hc (hr.mono (by omega)) (by rfl) (fun _ => passN) (pa_cons (pe_ix ix_list (pv 1) pe_int (fun _ _ => rfl)) pa_nil)))))))))), ?_⟩
  have z16 := sizeLine_eq
  refine ⟨_, rfl, .str z, "str", rfl, .inr (.inl rfl), (fun z => nomatch z), _, rfl, ?_⟩
  refine iteB (fun c => absurd (show (!inst "str" Kind.str) = true from c) (by decide +kernel)) (fun _ => ?_)
  refine ⟨by show 0 ≤ sizeLine; omega, fun a ha => ⟨by show 1 ≤ sizeLine; omega, fun b hb => ⟨by show 1 ≤ sizeLine; omega, fun Ag hA => ?_⟩⟩⟩
  refine ⟨fun m σ H' => ∃ (pre : List Nat) (rem : List Tk) (b0 : Nat) (G : Hp) (gs : List Grp) (o4 o5 : Option V), m = rem.length ∧ z.cps.toList = pre ++ rem.flatMap tkL ∧ Run b0 (gv gs) rem b' [D ++ [R]] ∧ StAt G H' Ag gs ∧ Same H G ∧ σ = [some (.str z), some (.ref Ag), some (.str ⟨#[b0]⟩), some (.int (pre.length : Nat)), o4, o5], ⟨toks.length, [], toks, 40, H, [(b, [(a, [], [])])], none, none, rfl, hz, hrun, start_st ha hb hA, Same.refl H, rfl⟩, ?_⟩
  rintro m _ H' ⟨pre, rem, b0, G, gs, o4, o5, rfl, hz', hrun', S, sH, rfl⟩
  have lz : z.length = pre.length + (rem.flatMap tkL).length := by rw [Gd.len_list, hz', List.length_append]
  refine ⟨_, rfl, _, rfl, z, rfl, by omega, _, _, rfl, rfl, _, rfl, ?_⟩
  generalize hX : gv gs = X at hrun'
  cases hrun' with
  | nil =>
    refine iteB (fun c => absurd (of_decide_eq_true c) (by show ¬ ((pre.length : Nat) : Int) < (z.length : Nat); rw [lz]; show ¬ ((pre.length : Nat) : Int) < ((pre.length + 0 : Nat) : Int); omega)) (fun _ => ?_)
    obtain ⟨gs0, g, rs, r, vs, rfl, hP, hD⟩ := gv_last (P := []) hX
    obtain rfl : gs0 = [] := by cases gs0 with
      | nil => rfl
      | cons y ys => exact nomatch hP
    obtain ⟨hT, hg, hr', hts, szr⟩ := last_facts S hsz hX
    refine ⟨_, rfl, Ag, _, rfl, .inl (SqL.of hT), _, _, rfl, rfl, _, rfl, ?_⟩
    refine iteB (fun c => absurd (of_decide_eq_true c) (by show ¬ (1 : Int) < 1; omega)) (fun _ => ?_)
    have lrs : rs.length + 1 ≤ 100000 := by
      have := (hsz.2 (D ++ [R]) List.mem_cons_self).1
      rw [List.length_append, ← hD, List.length_map] at this
      exact this
    have S' := S.grp (g, rs ++ [(r, vs, R)]) List.mem_cons_self
    have nd := S.nd
    have nd2 : (Ag :: g :: ((rs ++ [(r, vs, R)]).map (·.1))).Nodup := by
      have e : addrs ([] ++ [(g, rs ++ [(r, vs, R)])]) = g :: ((rs ++ [(r, vs, R)]).map (·.1)) := addrs_one g _
      rw [e] at nd
      exact nd
    refine ⟨_, rfl, Ag, _, _, _, rfl, rfl, SqL.of hT, atI_nat (j := 0) rfl, G, g, rs ++ [(r, vs, R)], rfl, S.sG, S'.1, fun y hy => ⟨S.fr y.1 (List.mem_cons_of_mem _ (mem_addrs_r (x := (g, rs ++ [(r, vs, R)])) List.mem_cons_self hy)), (S'.2 y hy).1, (S'.2 y hy).2⟩, (List.nodup_cons.mp (List.nodup_cons.mp nd2).2).2, by simp, by rw [List.length_append]; exact lrs, fun v H2 s2 sl => ?_⟩
    obtain ⟨G2, a1, a2, a3, a4⟩ := sl
    have eg : ((rs ++ [(r, vs, R)]).map fun r => r.2.2) = D ++ [R] := by
      rw [List.map_append, hD]
      rfl
    rw [eg] at a3
    exact q _ _ (sH.trans (a1.trans a2)) (a3.same a2)
  | @cons _ b1 _ _ P1 _ t ts sz st hr2 =>
    have el : (t :: ts).flatMap tkL = tkL t ++ ts.flatMap tkL := rfl
    rw [el] at hz' lz
    rw [List.length_append] at lz
    cases t with
    | ch c =>
      have l1 : (tkL (.ch c)).length = 1 := rfl
      rw [l1] at lz
      refine iteB (fun _ => ?_) (fun c1 => absurd (of_decide_eq_false c1) (by omega))
      have ec : atI z.cps.toList ((pre.length : Nat) : Int) = some c := atI_nat (by
        rw [hz', List.getElem?_append_right (Nat.le_refl _), Nat.sub_self]
        rfl)
      obtain ⟨m1, m2, m3, m4⟩ := may_of st
      subst m4
      refine ⟨_, fun _ _ h => h, ?_⟩
      refine ⟨_, rfl, _, rfl, z, _, b1, rfl, rfl, by omega, ec, ?_⟩
      refine ⟨_, rfl, rfl, _, rfl, ?_⟩
      rw [sgEq b1 (Str.ofString "<") 60 (by decide +kernel)]
      refine iteB (fun c1 => absurd (of_decide_eq_true c1) m3) (fun _ => ?_)
      obtain ⟨xs, hT, hxs⟩ := tops S
      have ed : mayF b1 b0 ((xs.length : Nat) - 1) = true := by
        rw [← hX, gv_len, ← hxs] at m1
        exact m1
      refine ⟨_, rfl, _, rfl, _, rfl, Ag, xs, rfl, .inl (SqL.of hT), _, _, rfl, rfl, b1, b0, _, rfl, m2, fun H2 s2 => ⟨_, rfl, ?_⟩⟩
      rw [ed]
      refine iteT ?_
      have S2 : StAt G H2 Ag gs := S.go s2 (Same.refl G) (S.sG.trans s2) S.fr
      refine ⟨_, rfl, _, rfl, G, Ag, gs, b1, b0, b1, P1, rfl, S2, by rw [hX]; exact st, by rw [hX]; exact sz, fun H3 G' gs' sg S3 e => ?_⟩
      refine ⟨_, rfl, _, rfl, _, _, rfl, rfl, ts.length, Nat.lt_succ_self _, pre ++ [b1], ts, b1, G', gs', some (.str ⟨#[b1]⟩), o5, rfl, ?_, by rw [e]; exact hr2, S3, sH.trans sg, ?_⟩
      · rw [hz', List.append_assoc]
        rfl
      · rw [List.length_append]
        rfl
    | nm x =>
      have l1 : (tkL (.nm x)).length = x.length + 2 := by
        show (60 :: (x.cps.toList ++ [62])).length = _
        rw [List.length_cons, List.length_append, ← Gd.len_list]
        rfl
      rw [l1] at lz
      refine iteB (fun _ => ?_) (fun c1 => absurd (of_decide_eq_false c1) (by omega))
      have hzz : z.cps.toList = pre ++ 60 :: (x.cps.toList ++ 62 :: ts.flatMap tkL) := by
        rw [hz']
        show pre ++ (60 :: (x.cps.toList ++ [62]) ++ ts.flatMap tkL) = _
        rw [List.cons_append, List.append_assoc]
        rfl
      have ec : atI z.cps.toList ((pre.length : Nat) : Int) = some 60 := atI_nat (by
        rw [hzz, List.getElem?_append_right (Nat.le_refl _), Nat.sub_self]
        rfl)
      cases st with
      | @name P0 D0 R0 _ nx =>
      obtain ⟨gs0, g, rs, r, vs, rfl, hP, hD⟩ := gv_last hX
      refine ⟨_, fun _ _ h => h, ?_⟩
      refine ⟨_, rfl, _, rfl, z, _, 60, rfl, rfl, by omega, ec, ?_⟩
      refine ⟨_, rfl, rfl, _, rfl, ?_⟩
      rw [sgEq 60 (Str.ofString "<") 60 (by decide +kernel)]
      refine iteB (fun _ => ?_) (fun c1 => absurd (of_decide_eq_false c1) (by decide))
      refine ⟨_, rfl, _, rfl, z, x, pre, ts.flatMap tkL, rfl, hzz, hzl, nx.1, nx.2.1, nx.2.2, fun H2 s2 => ?_⟩
      have S2 : StAt G H2 Ag (gs0 ++ [(g, rs ++ [(r, vs, R0)])]) := S.go s2 (Same.refl G) (S.sG.trans s2) S.fr
      obtain ⟨hT, hg, hr', hts, szr⟩ := last_facts S2 sz hX
      refine ⟨_, rfl, 1, rfl, Ag, _, _, _, rfl, rfl, SqL.of hT, atI_last, 1, rfl, g, _, _, _, rfl, rfl, SqL.of hg, atI_last, .inl ⟨rfl, _, SqL.of hr'⟩, _, rfl, _, rfl, _, _, rfl, rfl, _, rfl, _, rfl, _, rfl, z, rfl, by omega, ?_⟩
      rw [cut_mid hzz]
      refine ⟨by show 2 ≤ sizeLine; omega, fun e he => ⟨r, vs, _, rfl, rfl, by rw [upd_ne (ne_of_none hr' he)]; exact hr', by omega, ?_⟩⟩
      obtain ⟨a1, a2⟩ := add_leaf (t := .name x) S2 he (.name upd_same)
      refine ⟨_, rfl, _, rfl, _, rfl, _, _, rfl, rfl, ts.length, Nat.lt_succ_self _, pre ++ tkL (.nm x), ts, 60, _, _, some (.str ⟨#[60]⟩), some (.int ((pre.length + 1 + x.length : Nat) : Int)), rfl, ?_, ?_, a2, sH.trans a1, ?_⟩
      · rw [hz', List.append_assoc]
      · rw [gv_row, hP, hD]
        exact hr2
      · rw [List.length_append, l1]
        show [some (V.str z), some (V.ref Ag), some (V.str ⟨#[60]⟩), some (V.int (((pre.length + 1 + x.length : Nat) : Int) + 1)), some (V.str ⟨#[60]⟩), some (V.int ((pre.length + 1 + x.length : Nat) : Int))] = _
        rw [show (((pre.length + 1 + x.length : Nat) : Int) + 1) = ((pre.length + (x.length + 2) : Nat) : Int) by omega]
end
end KT

namespace KT
open PySem L2 Gd
/-! ### the marks of a tree's expression, and what they do to the open groups -/
def parK (b : Bool) (x : List Tk) : List Tk := if b then .ch 40 :: (x ++ [.ch 41]) else x
mutual
def tok0 : Tr → List Tk
  | .none => [.ch 48]
  | .empty => []
  | .letter c => [.ch c]
  | .name x => [.nm x]
  | .sgn k u => parK (needs u 3) (tok0 u) ++ [.ch (sgc k)]
  | .seq l => toksS l
  | .cho l => (toksB l).drop 1
def toksS : List Tr → List Tk
  | [] => []
  | t :: l => parK (needs t 2) (tok0 t) ++ toksS l
def toksB : List Tr → List Tk
  | [] => []
  | t :: l => .ch 124 :: (parK (needs t 1) (tok0 t) ++ toksB l)
end
def rowOf : Tr → List Tr
  | .empty => []
  | .seq l => l
  | t => [t]
theorem rowT_rowOf : ∀ {t : Tr}, t.Wf → rowT (rowOf t) = t
  | .seq l, h => by
    have h1 : 2 ≤ l.length := h.1
    match l, h1 with
    | _ :: _ :: _, _ => rfl
  | .none, _ => rfl
  | .empty, _ => rfl
  | .letter _, _ => rfl
  | .name _, _ => rfl
  | .sgn _ _, _ => rfl
  | .cho _, _ => rfl
theorem rowOf_len : ∀ {t : Tr}, t.Wf → (rowOf t).length ≤ 100000
  | .seq l, h => h.2.1
  | .none, _ => by decide
  | .empty, _ => by decide
  | .letter _, _ => by show 1 ≤ 100000; omega
  | .name _, _ => by show 1 ≤ 100000; omega
  | .sgn _ _, _ => by show 1 ≤ 100000; omega
  | .cho _, _ => by show 1 ≤ 100000; omega
theorem Run.app {b b1 b2 : Nat} {P P1 P2 : PG} {x y : List Tk} (h : Run b P x b1 P1) (g : Run b1 P1 y b2 P2) : Run b P (x ++ y) b2 P2 := by
  induction h with
  | nil => exact g
  | cons s st _ ih => exact .cons s st (ih g)
theorem Run.one {b b1 : Nat} {P P1 : PG} {t : Tk} (s : Sz P) (st : Stp b P t b1 P1) : Run b P [t] b1 P1 := .cons s st .nil
theorem Sz.put {P : PG} {X Y : List (List Tr)} (s : Sz (P ++ [X])) (h1 : Y.length ≤ 100000) (h2 : ∀ R ∈ Y, R.length ≤ 100000) : Sz (P ++ [Y]) := by
  refine ⟨by have := s.1; rw [List.length_append] at this ⊢; exact this, fun rows hr => ?_⟩
  rcases List.mem_append.mp hr with h | h
  · exact s.2 rows (List.mem_append_left _ h)
  · obtain rfl : rows = Y := by simpa using h
    exact ⟨h1, h2⟩
theorem Sz.row {P : PG} {D : List (List Tr)} {R R' : List Tr} (s : Sz (P ++ [D ++ [R]])) (h : R'.length ≤ 100000) : Sz (P ++ [D ++ [R']]) := by
  have h0 := s.2 (D ++ [R]) (List.mem_append_right _ List.mem_cons_self)
  refine s.put (by have := h0.1; rw [List.length_append] at this ⊢; exact this) (fun Q hQ => ?_)
  rcases List.mem_append.mp hQ with g | g
  · exact h0.2 Q (List.mem_append_left _ g)
  · obtain rfl : Q = R' := by simpa using g
    exact h
theorem Sz.open {P : PG} (s : Sz P) (h : P.length < 100000) : Sz (P ++ [[[]]]) := by
  refine ⟨by rw [List.length_append]; show P.length + 1 ≤ 100000; omega, fun rows hr => ?_⟩
  rcases List.mem_append.mp hr with h | h
  · exact s.2 rows h
  · obtain rfl : rows = [[]] := by simpa using h
    exact ⟨by decide, fun R hR => by obtain rfl : R = [] := by simpa using hR
                                     decide⟩
theorem pds_mem : ∀ {l : List Tr} {p : Int}, ∀ t ∈ l, pdA t p ≤ pds l p
  | [], _, _, h => nomatch h
  | u :: l, p, t, h => by
    have e : pds (u :: l) p = max (pdA u p) (pds l p) := by rw [pds]; rfl
    rcases List.mem_cons.mp h with rfl | h
    · omega
    · have := pds_mem (p := p) t h
      omega
theorem pdA_t {t : Tr} {p : Int} (h : needs t p = true) : pdA t p = 1 + pd t := by
  unfold pdA
  rw [h]
  rfl
theorem pdA_f {t : Tr} {p : Int} (h : needs t p = false) : pdA t p = pd t := by
  unfold pdA
  rw [h]
  exact Nat.zero_add _
theorem pd_sgn (k : _root_.Fin 3) (u : Tr) : pd (.sgn k u) = pdA u 3 := by rw [pd]; rfl
theorem pd_seq (l : List Tr) : pd (.seq l) = pds l 2 := by rw [pd]
theorem pd_cho (l : List Tr) : pd (.cho l) = pds l 1 := by rw [pd]
def Item (t : Tr) (p : Int) : Prop := ∀ (b : Nat) (P0 : PG) (D : List (List Tr)) (R : List Tr), P0.length + pdA t p ≤ 20 → Sz (P0 ++ [D ++ [R]]) → R.length + 1 ≤ 100000 →
  ∃ b', Run b (P0 ++ [D ++ [R]]) (parK (needs t p) (tok0 t)) b' (P0 ++ [D ++ [R ++ [t]]]) ∧ (p = 3 → isSig b' = false ∧ b' ≠ 124 ∧ b' ≠ 40)
def InRow (t : Tr) : Prop := ∀ (b : Nat) (P0 : PG) (D : List (List Tr)), P0.length + pd t ≤ 20 → Sz (P0 ++ [D ++ [[]]]) → ∃ b', Run b (P0 ++ [D ++ [[]]]) (tok0 t) b' (P0 ++ [D ++ [rowOf t]])
def InG (t : Tr) : Prop := ∀ (b : Nat) (P0 : PG), P0.length + pd t ≤ 20 → Sz (P0 ++ [[[]]]) → ∃ b' D R, Run b (P0 ++ [[[]]]) (tok0 t) b' (P0 ++ [D ++ [R]]) ∧ groupT (D ++ [R]) = t ∧ Sz (P0 ++ [D ++ [R]])
theorem items {P0 : PG} {D : List (List Tr)} : ∀ (l : List Tr) (b : Nat) (R : List Tr), (∀ t ∈ l, Item t 2 ∧ P0.length + pdA t 2 ≤ 20) → Sz (P0 ++ [D ++ [R]]) → R.length + l.length ≤ 100000 →
    ∃ b', Run b (P0 ++ [D ++ [R]]) (toksS l) b' (P0 ++ [D ++ [R ++ l]])
  | [], b, R, _, _, _ => ⟨b, by rw [List.append_nil]; exact .nil⟩
  | t :: l, b, R, h, s, hl => by
    rw [List.length_cons] at hl
    obtain ⟨b1, r1, _⟩ := (h t List.mem_cons_self).1 b P0 D R (h t List.mem_cons_self).2 s (by omega)
    obtain ⟨b2, r2⟩ := items l b1 (R ++ [t]) (fun u hu => h u (List.mem_cons_of_mem _ hu)) (s.row (by rw [List.length_append]; show R.length + 1 ≤ 100000; omega)) (by rw [List.length_append]; show R.length + 1 + l.length ≤ 100000; omega)
    rw [List.append_assoc] at r2
    exact ⟨b2, r1.app r2⟩
/-- a row of a choice -/
def RowC (t : Tr) : Prop := ∀ (b : Nat) (P0 : PG) (D : List (List Tr)), P0.length + pdA t 1 ≤ 20 → Sz (P0 ++ [D ++ [[]]]) → ∃ b', Run b (P0 ++ [D ++ [[]]]) (parK (needs t 1) (tok0 t)) b' (P0 ++ [D ++ [rowOf t]])
theorem rows {P0 : PG} : ∀ (l : List Tr) (b : Nat) (D : List (List Tr)) (R : List Tr), (∀ t ∈ l, RowC t ∧ P0.length + pdA t 1 ≤ 20 ∧ t.Wf) → Sz (P0 ++ [D ++ [R]]) → D.length + 1 + l.length ≤ 100000 →
    ∃ b' D' R', Run b (P0 ++ [D ++ [R]]) (toksB l) b' (P0 ++ [D' ++ [R']]) ∧ D' ++ [R'] = D ++ [R] ++ l.map rowOf ∧ Sz (P0 ++ [D' ++ [R']])
  | [], b, D, R, _, s, _ => ⟨b, D, R, .nil, by rw [List.map_nil, List.append_nil], s⟩
  | t :: l, b, D, R, h, s, hl => by
    rw [List.length_cons] at hl
    have h0 := s.2 (D ++ [R]) (List.mem_append_right _ List.mem_cons_self)
    have s1 : Sz (P0 ++ [D ++ [R] ++ [[]]]) := s.put (by rw [List.length_append, List.length_append]; show D.length + 1 + 1 ≤ 100000; omega) (fun Q hQ => by
      rcases List.mem_append.mp hQ with g | g
      · exact h0.2 Q g
      · obtain rfl : Q = [] := by simpa using g
        exact Nat.zero_le _)
    obtain ⟨c1, c2, c3⟩ := h t List.mem_cons_self
    obtain ⟨b1, r1⟩ := c1 124 P0 (D ++ [R]) c2 s1
    obtain ⟨b2, D', R', r2, e, s2⟩ := rows l b1 (D ++ [R]) (rowOf t) (fun u hu => h u (List.mem_cons_of_mem _ hu)) (s1.row (rowOf_len c3)) (by rw [List.length_append]; show D.length + 1 + 1 + l.length ≤ 100000; omega)
    exact ⟨b2, D', R', .cons s .bar (r1.app r2), by rw [e, List.map_cons]; simp, s2⟩
theorem item_of {t : Tr} {p : Int} (hp : p = 2 ∨ p = 3) (hw : t.Wf) (hg : InG t) (hs : ∀ k u, t = .sgn k u → Item u 3) : Item t p := by
  intro b P0 D R hh s hR
  have ln : (P0 ++ [D ++ [R]]).length = P0.length + 1 := by rw [List.length_append]; rfl
  by_cases hn : needs t p = true
  · rw [hn]
    rw [pdA_t hn] at hh
    have s1 : Sz (P0 ++ [D ++ [R]] ++ [[[]]]) := s.open (by rw [ln]; omega)
    obtain ⟨b1, D2, R2, r1, e1, s2⟩ := hg 40 (P0 ++ [D ++ [R]]) (by rw [ln]; omega) s1
    refine ⟨41, ?_, fun _ => by decide⟩
    have c : Stp b1 (P0 ++ [D ++ [R]] ++ [D2 ++ [R2]]) (.ch 41) 41 (P0 ++ [D ++ [R ++ [groupT (D2 ++ [R2])]]]) := .cls
    rw [e1] at c
    exact .cons s (.opn (by omega)) (r1.app (Run.one s2 c))
  · rw [Bool.not_eq_true] at hn
    rw [hn]
    rw [pdA_f hn] at hh
    show ∃ b', Run b (P0 ++ [D ++ [R]]) (tok0 t) b' _ ∧ _
    cases t with
    | none => exact ⟨48, Run.one s .zero, fun _ => by decide⟩
    | letter c =>
      have lc : low c = true := hw
      have lc' := lc
      unfold low at lc'
      rw [Bool.and_eq_true, decide_eq_true_eq, decide_eq_true_eq] at lc'
      refine ⟨c, Run.one s (.letter lc), fun _ => ⟨?_, by omega, by omega⟩⟩
      unfold isSig
      rw [decide_eq_false (by omega), decide_eq_false (by omega), decide_eq_false (by omega)]
      rfl
    | name x => exact ⟨60, Run.one s (.name hw), fun _ => by decide⟩
    | sgn k u =>
      have e : ¬ (p = 3) := fun z => by rw [z] at hn; exact nomatch hn
      rw [pd_sgn] at hh
      obtain ⟨b1, r1, ok⟩ := hs k u rfl b P0 D R (by omega) s hR
      obtain ⟨o1, o2, o3⟩ := ok rfl
      exact ⟨sgc k, r1.app (Run.one (s.row (by rw [List.length_append]; exact hR)) (.sgn o1 o2 o3)), fun z => absurd z e⟩
    | empty => rcases hp with rfl | rfl <;> exact nomatch hn
    | seq l => rcases hp with rfl | rfl <;> exact nomatch hn
    | cho l => rcases hp with rfl | rfl <;> exact nomatch hn
theorem wfs_mem : ∀ {l : List Tr}, Wfs l → ∀ t ∈ l, t.Wf
  | [], _, _, h => nomatch h
  | u :: l, w, t, h => by
    rcases List.mem_cons.mp h with rfl | h
    · exact w.1
    · exact wfs_mem w.2 t h
theorem heights_mem : ∀ {l : List Tr}, ∀ t ∈ l, t.height ≤ heights l
  | [], _, h => nomatch h
  | u :: l, t, h => by
    have e : heights (u :: l) = max u.height (heights l) := by rw [heights]
    rcases List.mem_cons.mp h with rfl | h
    · omega
    · have := heights_mem t h
      omega
def AllT (t : Tr) : Prop := InG t ∧ Item t 2 ∧ Item t 3 ∧ RowC t
theorem row_of {t : Tr} (h2 : Item t 2) (hr : (∀ l, t ≠ .cho l) → InRow t) : RowC t := by
  intro b P0 D hh s
  have go : needs t 1 = false → (∀ l, t ≠ .cho l) → ∃ b', Run b (P0 ++ [D ++ [[]]]) (parK (needs t 1) (tok0 t)) b' (P0 ++ [D ++ [rowOf t]]) := fun e z => by
    rw [e]
    exact hr z b P0 D (by rw [← pdA_f e]; exact hh) s
  cases t with
  | cho l =>
    have e1 : pdA (.cho l) 2 = pdA (.cho l) 1 := rfl
    obtain ⟨b1, r1, _⟩ := h2 b P0 D [] (by rw [e1]; exact hh) s (by decide)
    exact ⟨b1, r1⟩
  | none => exact go rfl (fun l z => nomatch z)
  | empty => exact go rfl (fun l z => nomatch z)
  | letter c => exact go rfl (fun l z => nomatch z)
  | name x => exact go rfl (fun l z => nomatch z)
  | sgn k u => exact go rfl (fun l z => nomatch z)
  | seq l => exact go rfl (fun l z => nomatch z)
theorem inrow_of {t : Tr} (hw : t.Wf) (ih : ∀ u : Tr, u.height < t.height → u.Wf → AllT u) (hc : ∀ l, t ≠ .cho l) : InRow t := by
  intro b P0 D hh s
  cases t with
  | cho l => exact absurd rfl (hc l)
  | none => exact ⟨48, Run.one s (.zero (R := []))⟩
  | empty => exact ⟨b, .nil⟩
  | letter c => exact ⟨c, Run.one s (.letter (R := []) hw)⟩
  | name x => exact ⟨60, Run.one s (.name (R := []) hw)⟩
  | sgn k u =>
    rw [pd_sgn] at hh
    obtain ⟨b1, r1, ok⟩ := (ih u (Nat.lt_succ_self _) hw).2.2.1 b P0 D [] (by omega) s (by decide)
    obtain ⟨o1, o2, o3⟩ := ok rfl
    exact ⟨sgc k, r1.app (Run.one (s.row (by show 1 ≤ 100000; omega)) (.sgn (R := []) o1 o2 o3))⟩
  | seq l =>
    rw [pd_seq] at hh
    obtain ⟨b1, r1⟩ := items (P0 := P0) (D := D) l b [] (fun u hu => ⟨(ih u (Nat.lt_succ_of_le (heights_mem u hu)) (wfs_mem hw.2.2 u hu)).2.1, by have := pds_mem (p := 2) u hu; omega⟩) s (by have := hw.2.1; show 0 + l.length ≤ 100000; omega)
    exact ⟨b1, r1⟩
theorem ing_of {t : Tr} (hw : t.Wf) (ih : ∀ u : Tr, u.height < t.height → u.Wf → AllT u) : InG t := by
  intro b P0 hh s
  have go : (∀ l, t ≠ .cho l) → ∃ b' D R, Run b (P0 ++ [[[]]]) (tok0 t) b' (P0 ++ [D ++ [R]]) ∧ groupT (D ++ [R]) = t ∧ Sz (P0 ++ [D ++ [R]]) := fun z => by
    obtain ⟨b1, r1⟩ := inrow_of hw ih z b P0 [] hh s
    exact ⟨b1, [], rowOf t, r1, rowT_rowOf hw, Sz.row (D := []) s (rowOf_len hw)⟩
  cases t with
  | cho l =>
    cases l with
    | nil => exact absurd hw.1 (by decide)
    | cons t0 l =>
      rw [pd_cho] at hh
      have hall : ∀ u ∈ t0 :: l, RowC u ∧ P0.length + pdA u 1 ≤ 20 ∧ u.Wf := fun u hu => ⟨(ih u (Nat.lt_succ_of_le (heights_mem u hu)) (wfs_mem hw.2.2 u hu)).2.2.2, by have := pds_mem (p := 1) u hu; omega, wfs_mem hw.2.2 u hu⟩
      obtain ⟨c1, c2, c3⟩ := hall t0 List.mem_cons_self
      obtain ⟨b1, r1⟩ := c1 b P0 [] c2 s
      have hl : (t0 :: l).length ≤ 100000 := hw.2.1
      have h1 : 2 ≤ (t0 :: l).length := hw.1
      obtain ⟨b2, D', R', r2, e, s2⟩ := rows l b1 [] (rowOf t0) (fun u hu => hall u (List.mem_cons_of_mem _ hu)) (Sz.row (D := []) s (rowOf_len c3)) (by rw [List.length_cons] at hl; show 0 + 1 + l.length ≤ 100000; omega)
      refine ⟨b2, D', R', r1.app r2, ?_, s2⟩
      rw [e]
      have em : (rowOf t0 :: l.map rowOf).map rowT = t0 :: l := by
        rw [List.map_cons, rowT_rowOf c3, List.map_map]
        have : l.map (rowT ∘ rowOf) = l.map id := List.map_congr_left (fun u hu => rowT_rowOf (hall u (List.mem_cons_of_mem _ hu)).2.2)
        rw [this, List.map_id]
      have : groupT (rowOf t0 :: l.map rowOf) = .cho ((rowOf t0 :: l.map rowOf).map rowT) := group2 (by rw [List.length_cons, List.length_map]; rw [List.length_cons] at h1; exact h1)
      rw [em] at this
      exact this
  | none => exact go (fun l z => nomatch z)
  | empty => exact go (fun l z => nomatch z)
  | letter c => exact go (fun l z => nomatch z)
  | name x => exact go (fun l z => nomatch z)
  | sgn k u => exact go (fun l z => nomatch z)
  | seq l => exact go (fun l z => nomatch z)
theorem all_of : ∀ (n : Nat) (t : Tr), t.height ≤ n → t.Wf → AllT t := by
  intro n
  induction n with
  | zero => exact fun t h _ => absurd h (by cases t <;> (unfold Tr.height; omega))
  | succ n ih =>
    intro t h hw
    have ih' : ∀ u : Tr, u.height < t.height → u.Wf → AllT u := fun u hu => ih u (by omega)
    have g := ing_of hw ih'
    have hs : ∀ k u, t = .sgn k u → Item u 3 := fun k u e => by
      subst e
      exact (ih' u (Nat.lt_succ_self _) hw).2.2.1
    have i2 := item_of (p := 2) (.inl rfl) hw g hs
    exact ⟨g, i2, item_of (.inr rfl) hw g hs, row_of i2 (inrow_of hw ih')⟩
/-- a tree's marks are read as the tree -/
theorem run_tree {t : Tr} (hw : t.Wf) (hh : pd t ≤ 20) : ∃ b' D R, Run 40 [[[]]] (tok0 t) b' [D ++ [R]] ∧ groupT (D ++ [R]) = t ∧ Sz [D ++ [R]] :=
  (all_of t.height t (Nat.le_refl _) hw).1 40 [] (by show 0 + pd t ≤ 20; omega) ⟨by decide, fun rows h => by
    obtain rfl : rows = [[]] := by simpa using h
    exact ⟨by decide, fun R hR => by obtain rfl : R = [] := by simpa using hR
                                     decide⟩⟩
/-! the expression is its marks -/
theorem par_toks {b : Bool} {x : Str} {y : List Tk} (h : x.cps.toList = y.flatMap tkL) : (par b x).cps.toList = (parK b y).flatMap tkL := by
  have e1 : (Str.ofString "(").cps.toList = [40] := by decide +kernel
  have e2 : (Str.ofString ")").cps.toList = [41] := by decide +kernel
  have e0 : Str.empty.cps.toList = [] := rfl
  cases b with
  | false => exact h
  | true =>
    show (Str.empty ++ Str.ofString "(" ++ x ++ Str.ofString ")").cps.toList = (Tk.ch 40 :: (y ++ [Tk.ch 41])).flatMap tkL
    rw [Gd.app_list, Gd.app_list, Gd.app_list, e0, e1, e2, h, List.flatMap_cons, List.flatMap_append]
    simp [tkL]
theorem join0_cons (x : Str) (l : List Str) : (Str.join "" (x :: l)).cps.toList = x.cps.toList ++ (Str.join "" l).cps.toList := by
  cases l with
  | nil => 
    show x.cps.toList = x.cps.toList ++ []
    rw [List.append_nil]
  | cons y r =>
    have e : (("" : String) : Str).cps.toList = [] := by decide +kernel
    show (x ++ "" ++ Str.join "" (y :: r)).cps.toList = _
    rw [Gd.app_list, Gd.app_list, e, List.append_nil]
theorem joinb_cons (x : Str) (l : List Str) : 124 :: (Str.join "|" (x :: l)).cps.toList = 124 :: (x.cps.toList ++ (if l = [] then [] else 124 :: (Str.join "|" l).cps.toList)) := by
  cases l with
  | nil => 
    show 124 :: x.cps.toList = 124 :: (x.cps.toList ++ [])
    rw [List.append_nil]
  | cons y r =>
    have e : (("|" : String) : Str).cps.toList = [124] := by decide +kernel
    show 124 :: (x ++ "|" ++ Str.join "|" (y :: r)).cps.toList = _
    rw [Gd.app_list, Gd.app_list, e, List.append_assoc]
    rfl
mutual
theorem wr_toks : ∀ t : Tr, (wr0 t).cps.toList = (tok0 t).flatMap tkL
  | .none => by rw [wr0, tok0]; decide +kernel
  | .empty => by rw [wr0, tok0]; decide +kernel
  | .letter c => by rw [wr0, tok0]; rfl
  | .name x => by
    have e1 : (Str.ofString "<").cps.toList = [60] := by decide +kernel
    have e2 : (Str.ofString ">").cps.toList = [62] := by decide +kernel
    rw [wr0, tok0, Gd.app_list, Gd.app_list, Gd.app_list, e1, e2]
    simp [tkL, Str.empty]
  | .sgn k u => by
    have ek : ∀ k : _root_.Fin 3, (sgTx k).cps.toList = [sgc k] := by decide +kernel
    rw [wr0, tok0, Gd.app_list, par_toks (wr_toks u), ek, List.flatMap_append]
    rfl
  | .seq l => by
    rw [wr0, tok0, join_str]
    exact wrs_toks l
  | .cho l => by
    rw [wr0, tok0, join_str]
    have h := wrb_toks l
    cases l with
    | nil => decide +kernel
    | cons t l =>
      rw [if_neg (List.cons_ne_nil _ _)] at h
      rw [toksB] at h ⊢
      injection h with _ h
theorem wrs_toks : ∀ l : List Tr, (Str.join "" (wrs l 2)).cps.toList = (toksS l).flatMap tkL
  | [] => by rw [wrs, toksS]; rfl
  | t :: l => by rw [wrs, toksS, join0_cons, par_toks (wr_toks t), wrs_toks l, List.flatMap_append]
theorem wrb_toks : ∀ l : List Tr, (if l = [] then [] else 124 :: (Str.join "|" (wrs l 1)).cps.toList) = (toksB l).flatMap tkL
  | [] => by rw [toksB]; rfl
  | t :: l => by
    have ih := wrb_toks l
    rw [if_neg (List.cons_ne_nil _ _), wrs, toksB, joinb_cons, par_toks (wr_toks t)]
    have e : (if wrs l 1 = [] then [] else 124 :: (Str.join "|" (wrs l 1)).cps.toList) = (toksB l).flatMap tkL := by
      rw [← ih]
      cases l with
      | nil => rw [wrs]; rfl
      | cons u l => rw [if_neg (List.cons_ne_nil _ _), if_neg (by rw [wrs]; exact List.cons_ne_nil _ _)]
    rw [e, List.flatMap_cons, List.flatMap_append]
    rfl
end
end KT

namespace KT
open PySem L2 Gd
/-- the tree of its own expression -/
def spParseT : Sp := fun vs H Q _ => ∃ t : Tr, vs = [.str (wr0 t)] ∧ t.Wf ∧ pd t ≤ 20 ∧ (wr0 t).length ≤ 100000 ∧ ∀ v H', Same H H' → TrAt H' v t → Q v H'
theorem spParseT_le {vs : List V} {H : Hp} {Q : VK} {E : XK} (h : spParseT vs H Q E) : spParse vs H Q E := by
  obtain ⟨t, rfl, hw, hh, hl, q⟩ := h
  obtain ⟨b', D, R, r, e, s⟩ := run_tree hw hh
  exact ⟨wr0 t, tok0 t, b', D, R, rfl, wr_toks t, hl, r, s, by rw [e]; exact q⟩
theorem parse_tree {P : Program} {w : World} {K : PySem.W.Frag} {mg : Str → Option Value} {base : Heap} {CX : CXT} {k : Nat} {f : Addr} {fd : FuncData} {ps : List Str} (F : FnG P w K mg base CX k f fd ps spParse) : FnG P w K mg base CX k f fd ps spParseT :=
  ⟨fun vs H Q E h => F.len vs H Q E (spParseT_le h), fun A outer s H args us vs Q E hc hr e0 hb r h => F.run A outer s H args us vs Q E hc hr e0 hb r (spParseT_le h)⟩
end KT

namespace KT
open PySem L2 Gd
mutual
def nd : Tr → Nat
  | .sgn _ t => nd t + 1
  | .seq l => nds l + 1
  | .cho l => nds l + 1
  | _ => 1
def nds : List Tr → Nat
  | [] => 0
  | t :: l => nd t + nds l
end
mutual
/-- the letters or the names of a tree, from left to right -/
def wo (kd : Str) : Tr → List Str
  | .letter c => if kd = sLetter then [⟨#[c]⟩] else []
  | .name x => if kd = sName then [x] else []
  | .sgn _ t => wo kd t
  | .seq l => wos kd l
  | .cho l => wos kd l
  | _ => []
def wos (kd : Str) : List Tr → List Str
  | [] => []
  | t :: l => wo kd t ++ wos kd l
end
def spWords : Sp := fun vs H Q _ => ∃ (v : V) (t : Tr) (kd : Str), vs = [v, .str kd] ∧ TrAt H v t ∧ (kd = sLetter ∨ kd = sName) ∧ nd t ≤ 1000 ∧ ∀ H' p, Same H H' → H p = none → H' p = some (.lst ((wo kd t).map V.str)) → Q (.ref p) H'
theorem nd_pos : ∀ u : Tr, 1 ≤ nd u
  | .none => Nat.le_refl _
  | .empty => Nat.le_refl _
  | .letter _ => Nat.le_refl _
  | .name _ => Nat.le_refl _
  | .sgn _ t => by show 1 ≤ nd t + 1; omega
  | .seq l => by show 1 ≤ nds l + 1; omega
  | .cho l => by show 1 ≤ nds l + 1; omega
theorem nds_len : ∀ l : List Tr, l.length ≤ nds l
  | [] => Nat.le_refl _
  | t :: l => by
    have := nds_len l
    have := nd_pos t
    show l.length + 1 ≤ nd t + nds l
    omega
theorem nds_app : ∀ l r : List Tr, nds (l ++ r) = nds l + nds r
  | [], r => by show nds r = 0 + nds r; omega
  | t :: l, r => by
    show nd t + nds (l ++ r) = nd t + nds l + nds r
    rw [nds_app l r]
    omega
theorem wos_app (kd : Str) : ∀ l r : List Tr, wos kd (l ++ r) = wos kd l ++ wos kd r
  | [], r => rfl
  | t :: l, r => by
    show wo kd t ++ wos kd (l ++ r) = (wo kd t ++ wos kd l) ++ wos kd r
    rw [wos_app kd l r, List.append_assoc]
theorem listed_of {u : Tr} (c : inV (.str u.kind) [V.str sSeq, V.str sCho] = true) : (∃ l, u = .seq l) ∨ ∃ l, u = .cho l := by
  have no : ∀ k : _root_.Fin 3, inV (.str (sSgn k)) [V.str sSeq, V.str sCho] = false := by decide +kernel
  cases u with
  | seq l => exact .inl ⟨l, rfl⟩
  | cho l => exact .inr ⟨l, rfl⟩
  | sgn k u => exact absurd (show inV (.str (sSgn k)) [V.str sSeq, V.str sCho] = true from c) (by rw [no k]; exact Bool.false_ne_true)
  | none => exact absurd (show inV (.str sNone) [V.str sSeq, V.str sCho] = true from c) (by decide +kernel)
  | empty => exact absurd (show inV (.str sEmpty) [V.str sSeq, V.str sCho] = true from c) (by decide +kernel)
  | letter u => exact absurd (show inV (.str sLetter) [V.str sSeq, V.str sCho] = true from c) (by decide +kernel)
  | name u => exact absurd (show inV (.str sName) [V.str sSeq, V.str sCho] = true from c) (by decide +kernel)
section
variable {P : Program} {w : World} {K : PySem.W.Frag} {mg : Str → Option Value} {base : Heap} {aS aL : Addr} {es : Array DictEntry} {n : Nat}
abbrev swords_of : Stmt := top 38
theorem scwords_of : FnScope ["tree", "kind", "found", "waiting", "part"] ["tree", "kind"] (defScope swords_of) := ⟨rfl, rfl, rfl, by decide +kernel, rfl, by decide +kernel, by decide +kernel⟩
theorem ok_words {f : Addr} {fd : FuncData} (F : Fun K "words_of" "words_of" swords_of f fd) (T : Txt w K mg base aS aL es n) : FnG P w K mg base CX0 1 f fd ["tree", "kind"] spWords := by
  refine okG F scwords_of (fun vs H Q E h => ?_) (fun cdv A outer s H vs Q E hc hr h => ?_)
  · obtain ⟨v, t, kd, rfl, _⟩ := h
    rfl
  obtain ⟨v, t, kd, rfl, ht, hk, hn, q⟩ := h
  refine ⟨_, (pss_cons (ps_set (i := 2) scwords_of.nd rfl (Or.inl rfl) (pe_lst pa_nil))
 (pss_cons (ps_set (i := 3) scwords_of.nd rfl (Or.inl rfl) (pe_lst (pa_cons (pv 0) pa_nil)))
 (pss_cons (ps_while (passes_of rfl) (pt_truth (pv 3) (by intro _; rfl))
  (pss_cons (ps_set (i := 4) scwords_of.nd rfl (Or.inl rfl) (pe_bm0 PySem.F.plainAttrs_list PySem.F.slot_list_pop PySem.F.type_list_pop mt_pop (pv 3)))
 (pss_one (ps_if (pt_cmpR op_in_seq (pe_ix ix_tup (pv 4) pe_int (fun _ _ => rfl)) (pe_k (by rfl) T.g_LISTED) (by rfl))
  (pss_one (ps_expr (pe_bm PySem.F.plainAttrs_list PySem.F.slot_list_extend PySem.F.type_list_extend mt_extend (pv 3) (pa_cons (pe_revL (pe_ix ix_tup (pv 4) pe_int (fun _ _ => rfl))) pa_nil)))) (pss_one (ps_if (pt_cmpR (op_in_kd T.d_SIGNS_BY_KIND) (pe_ix ix_tup (pv 4) pe_int (fun _ _ => rfl)) (pe_k (by rfl) T.g_SIGNS_BY_KIND) (by rfl))
  (pss_one (ps_expr (pe_bm PySem.F.plainAttrs_list PySem.F.slot_list_append PySem.F.type_list_append mt_append (pv 3) (pa_cons (pe_ix ix_tup (pv 4) pe_int (fun _ _ => rfl)) pa_nil)))) (pss_one (ps_if (pt_cmpR op_eq (pe_ix ix_tup (pv 4) pe_int (fun _ _ => rfl)) (pv 1) (nomark _))
  (pss_one (ps_expr (pe_bm PySem.F.plainAttrs_list PySem.F.slot_list_append PySem.F.type_list_append mt_append (pv 2) (pa_cons (pe_ix ix_tup (pv 4) pe_int (fun _ _ => rfl)) pa_nil)))) pss_nil))))))))
 (pss_one (ps_ret (pv 2)))))), ?_⟩
  have z16 := sizeLine_eq
  refine ⟨by show 0 ≤ sizeLine; omega, fun F hF => ?_⟩
  refine ⟨_, rfl, by show 1 ≤ sizeLine; omega, fun W hW => ?_⟩
  have hWF : W ≠ F := fun z => by
    rw [z, upd_same] at hW
    exact nomatch hW
  have hW0 : H W = none := by
    rw [upd_ne hWF] at hW
    exact hW
  refine ⟨fun m σ H' => ∃ (rs : List V) (us : List Tr) (ys : List Str) (o4 : Option V), m = nds us ∧ σ = [some v, some (.str kd), some (.ref F), some (.ref W), o4] ∧ H' F = some (.lst (ys.map V.str)) ∧ H' W = some (.lst rs.reverse) ∧ TrsAt H rs us ∧ ys ++ wos kd us = wo kd t ∧ ys.length + nds us ≤ nd t ∧ Same H H',
    ⟨_, [v], [t], [], none, rfl, rfl, by rw [upd_ne hWF.symm]; exact upd_same, upd_same, .cons ht .nil, by show [] ++ (wo kd t ++ []) = _; simp, by show 0 + (nd t + 0) ≤ nd t; omega, fun c u h => by rw [upd_ne (ne_of_none h hW0), upd_ne (ne_of_none h hF)]; exact h⟩, ?_⟩
  rintro m _ H' ⟨rs, us, ys, o4, rfl, rfl, gF, gW, gT, gw, gn, gs⟩
  refine ⟨_, rfl, _, .inl ⟨_, SqL.of gW, rfl⟩, ?_⟩
  cases gT with
  | nil =>
    refine iteB (fun c => absurd c (by decide)) (fun _ => ?_)
    have : ys = wo kd t := by
      rw [← gw]
      show ys = ys ++ []
      simp
    rw [this] at gF
    exact ⟨_, rfl, q H' F gs hF gF⟩
  | @cons r rs u us hu gT =>
    have et : (!((r :: rs).reverse).isEmpty) = true := by simp
    rw [et]
    refine iteT ⟨fun σ' H2 => ∃ m', m' < nds (u :: us) ∧ ∃ (rs : List V) (us : List Tr) (ys : List Str) (o4 : Option V), m' = nds us ∧ σ' = [some v, some (.str kd), some (.ref F), some (.ref W), o4] ∧ H2 F = some (.lst (ys.map V.str)) ∧ H2 W = some (.lst rs.reverse) ∧ TrsAt H rs us ∧ ys ++ wos kd us = wo kd t ∧ ys.length + nds us ≤ nd t ∧ Same H H2, fun _ _ h => h, ?_⟩
    have eg : ((r :: rs).reverse)[((r :: rs).reverse).length - 1]? = some r := by simp
    have ed : ((r :: rs).reverse).dropLast = rs.reverse := by simp
    refine ⟨_, rfl, .inl ⟨rfl, _, SqL.of gW⟩, W, _, r, rfl, rfl, gW, eg, ?_⟩
    rw [ed]
    obtain ⟨a, xs, rfl, ha⟩ := hu.tup
    have s1 : Same H (upd H' W (.lst rs.reverse)) := fun c o h => by rw [upd_ne (ne_of_none h hW0)]; exact gs _ _ h
    have g1W : (upd H' W (.lst rs.reverse)) W = some (.lst rs.reverse) := upd_same
    have g1F : (upd H' W (.lst rs.reverse)) F = some (.lst (ys.map V.str)) := by rw [upd_ne hWF.symm]; exact gF
    generalize upd H' W (.lst rs.reverse) = H1 at s1 g1W g1F
    have en : nds (u :: us) = nd u + nds us := rfl
    have ew : wos kd (u :: us) = wo kd u ++ wos kd us := rfl
    rw [en] at gn ⊢
    rw [ew] at gw
    have hl : rs.length = us.length := gT.length
    have lus := nds_len us
    have npos := nd_pos u
    refine ⟨_, rfl, a, _, _, _, rfl, rfl, SqT.of (s1 _ _ ha), atI_nat (j := 0) rfl, aL, _, rfl, .inr (T.q_LISTED _), rfl, rfl, _, rfl, ?_⟩
    -- a list of parts
    have parts : ∀ (b : Addr) (vl : List V) (l : List Tr), H a = some (.tup [.str u.kind, .ref b]) → H b = some (.lst vl) → TrsAt H vl l → nd u = nds l + 1 → wo kd u = wos kd l →
        (tDrop (tBM K "list" rExtend (tVar 3) (tCons (tRevL K (tOp (rIxT K) (tVar 4) (tC (V.int 1)))) tNil)))
        { nx := fun σ' H2 => ∃ m', m' < nd u + nds us ∧ ∃ (rs : List V) (us : List Tr) (ys : List Str) (o4 : Option V), m' = nds us ∧ σ' = [some v, some (.str kd), some (.ref F), some (.ref W), o4] ∧ H2 F = some (.lst (ys.map V.str)) ∧ H2 W = some (.lst rs.reverse) ∧ TrsAt H rs us ∧ ys ++ wos kd us = wo kd t ∧ ys.length + nds us ≤ nd t ∧ Same H H2,
          ct := fun σ' H2 => ∃ m', m' < nd u + nds us ∧ ∃ (rs : List V) (us : List Tr) (ys : List Str) (o4 : Option V), m' = nds us ∧ σ' = [some v, some (.str kd), some (.ref F), some (.ref W), o4] ∧ H2 F = some (.lst (ys.map V.str)) ∧ H2 W = some (.lst rs.reverse) ∧ TrsAt H rs us ∧ ys ++ wos kd us = wo kd t ∧ ys.length + nds us ≤ nd t ∧ Same H H2,
          bk := fun _ H' => Q .non H', rt := Q } [some v, some (.str kd), some (.ref F), some (.ref W), some (.ref a)] H1 := by
      intro b vl l k1 k2 k3 k4 k5
      have lv := k3.length
      have ll := nds_len l
      refine ⟨_, rfl, .inl ⟨rfl, _, SqL.of g1W⟩, _, rfl, a, _, _, _, rfl, rfl, SqT.of (s1 _ _ k1), atI_nat (j := 1) rfl, b, vl, rfl, SqL.of (s1 _ _ k2), fun p hp => ?_⟩
      have pW : W ≠ p := ne_of_none g1W hp
      have pF : F ≠ p := ne_of_none g1F hp
      refine ⟨W, p, rs.reverse, vl.reverse, rfl, rfl, by rw [upd_ne pW]; exact g1W, upd_same, ?_, ?_⟩
      · rw [List.length_reverse, List.length_reverse]
        omega
      refine ⟨nds (l ++ us), ?_, vl ++ rs, l ++ us, ys, _, rfl, rfl, ?_, ?_, trs_append k3 gT, ?_, ?_, fun c o h => ?_⟩
      · rw [nds_app]
        omega
      · rw [upd_ne hWF.symm, upd_ne pF]
        exact g1F
      · rw [upd_same, List.reverse_append]
      · rw [wos_app, ← k5]
        exact gw
      · rw [nds_app]
        omega
      · rw [upd_ne (ne_of_none h hW0), upd_ne (ne_of_none (s1 _ _ h) hp)]
        exact s1 _ _ h
    refine iteB (fun c => ?_) (fun c => ?_)
    · rcases listed_of (show inV (.str u.kind) [V.str sSeq, V.str sCho] = true from c) with ⟨l, rfl⟩ | ⟨l, rfl⟩
      · cases hu with
        | seq k1 k2 k3 => exact parts _ _ l k1 k2 k3 rfl rfl
      · cases hu with
        | cho k1 k2 k3 => exact parts _ _ l k1 k2 k3 rfl rfl
    obtain ⟨r0, hr1, hr2⟩ := T.i_SIGNS_BY_KIND u
    refine ⟨_, rfl, a, _, _, _, rfl, rfl, SqT.of (s1 _ _ ha), atI_nat (j := 0) rfl, _, r0, rfl, rfl, hr1, _, rfl, ?_⟩
    rw [hr2]
    refine iteB (fun c7 => ?_) (fun c7 => ?_)
    · cases hu with
      | @sgn _ k y u k1 k2 =>
        have e1 : nd (Tr.sgn k u) = nd u + 1 := rfl
        have e2 : wo kd (Tr.sgn k u) = wo kd u := rfl
        rw [e1] at gn ⊢
        rw [e2] at gw
        refine ⟨_, rfl, .inl ⟨rfl, _, SqL.of g1W⟩, _, rfl, a, _, _, _, rfl, rfl, SqT.of (s1 _ _ k1), atI_nat (j := 1) rfl, W, _, _, rfl, rfl, g1W, by rw [List.length_reverse]; omega, ?_⟩
        refine ⟨nds (u :: us), by show nd u + nds us < _; omega, y :: rs, u :: us, ys, _, rfl, rfl, ?_, ?_, .cons k2 gT, gw, by show ys.length + (nd u + nds us) ≤ nd t; omega, fun c o h => ?_⟩
        · rw [upd_ne hWF.symm]
          exact g1F
        · rw [upd_same, List.reverse_cons]
        · rw [upd_ne (ne_of_none h hW0)]
          exact s1 _ _ h
      | none _ => exact nomatch c7
      | empty _ => exact nomatch c7
      | letter _ => exact nomatch c7
      | name _ => exact nomatch c7
      | seq _ _ _ => exact nomatch c7
      | cho _ _ _ => exact nomatch c7
    refine ⟨_, rfl, a, _, _, _, rfl, rfl, SqT.of (s1 _ _ ha), atI_nat (j := 0) rfl, _, rfl, rfl, _, rfl, ?_⟩
    rw [kindEq]
    refine iteB (fun c8 => ?_) (fun c8 => ?_)
    · have c8 := of_decide_eq_true c8
      -- the word
      have word : ∀ x : Str, H a = some (.tup [.str u.kind, .str x]) → wo kd u = [x] →
        (tDrop (tBM K "list" rAppend (tVar 2) (tCons (tOp (rIxT K) (tVar 4) (tC (V.int 1))) tNil)))
        { nx := fun σ' H2 => ∃ m', m' < nd u + nds us ∧ ∃ (rs : List V) (us : List Tr) (ys : List Str) (o4 : Option V), m' = nds us ∧ σ' = [some v, some (.str kd), some (.ref F), some (.ref W), o4] ∧ H2 F = some (.lst (ys.map V.str)) ∧ H2 W = some (.lst rs.reverse) ∧ TrsAt H rs us ∧ ys ++ wos kd us = wo kd t ∧ ys.length + nds us ≤ nd t ∧ Same H H2,
          ct := fun σ' H2 => ∃ m', m' < nd u + nds us ∧ ∃ (rs : List V) (us : List Tr) (ys : List Str) (o4 : Option V), m' = nds us ∧ σ' = [some v, some (.str kd), some (.ref F), some (.ref W), o4] ∧ H2 F = some (.lst (ys.map V.str)) ∧ H2 W = some (.lst rs.reverse) ∧ TrsAt H rs us ∧ ys ++ wos kd us = wo kd t ∧ ys.length + nds us ≤ nd t ∧ Same H H2,
          bk := fun _ H' => Q .non H', rt := Q } [some v, some (.str kd), some (.ref F), some (.ref W), some (.ref a)] H1 := by
        intro x k1 k2
        refine ⟨_, rfl, .inl ⟨rfl, _, SqL.of g1F⟩, _, rfl, a, _, _, _, rfl, rfl, SqT.of (s1 _ _ k1), atI_nat (j := 1) rfl, F, _, _, rfl, rfl, g1F, by rw [List.length_map]; omega, ?_⟩
        refine ⟨nds us, by omega, rs, us, ys ++ [x], _, rfl, rfl, ?_, ?_, gT, ?_, ?_, fun c o h => ?_⟩
        · rw [upd_same, List.map_append]
          rfl
        · rw [upd_ne hWF]
          exact g1W
        · rw [← gw, k2, List.append_assoc]
        · rw [List.length_append]
          show ys.length + 1 + nds us ≤ nd t
          omega
        · rw [upd_ne (ne_of_none h hF)]
          exact s1 _ _ h
      cases hu with
      | letter k1 => exact word _ k1 (by rw [← c8]; exact if_pos rfl)
      | name k1 => exact word _ k1 (by rw [← c8]; exact if_pos rfl)
      | none _ => rcases hk with e | e <;> (rw [e] at c8; exact absurd c8 (by decide +kernel))
      | empty _ => rcases hk with e | e <;> (rw [e] at c8; exact absurd c8 (by decide +kernel))
      | seq _ _ _ => rcases hk with e | e <;> (rw [e] at c8; exact absurd c8 (by show ¬ sSeq = _; decide +kernel))
      | cho _ _ _ => rcases hk with e | e <;> (rw [e] at c8; exact absurd c8 (by show ¬ sCho = _; decide +kernel))
      | sgn _ _ => exact nomatch c7
    · have c8 := of_decide_eq_false c8
      have e0 : wo kd u = [] := by
        cases u with
        | letter c => exact if_neg (fun z => c8 z.symm)
        | name x => exact if_neg (fun z => c8 z.symm)
        | none => rfl
        | empty => rfl
        | sgn k u => exact nomatch c7
        | seq l => exact absurd (show inV (.str sSeq) [V.str sSeq, V.str sCho] = false from c) (by decide +kernel)
        | cho l => exact absurd (show inV (.str sCho) [V.str sSeq, V.str sCho] = false from c) (by decide +kernel)
      rw [e0, List.nil_append] at gw
      exact ⟨nds us, by omega, rs, us, ys, _, rfl, rfl, g1F, g1W, gT, gw, by omega, s1⟩
end
end KT

namespace KT
open PySem L2 Gd
mutual
/-- names replaced by trees -/
def rep (tb : Str → Option Tr) : Tr → Tr
  | .name x => (tb x).getD (.name x)
  | .sgn k u => .sgn k (rep tb u)
  | .seq l => .seq (reps tb l)
  | .cho l => .cho (reps tb l)
  | .none => .none
  | .empty => .empty
  | .letter c => .letter c
def reps (tb : Str → Option Tr) : List Tr → List Tr
  | [] => []
  | t :: l => rep tb t :: reps tb l
end
mutual
theorem rep_none : ∀ t : Tr, rep (fun _ => Option.none) t = t
  | .none => rfl
  | .empty => rfl
  | .letter _ => rfl
  | .name _ => rfl
  | .sgn k u => by show Tr.sgn k (rep _ u) = _; rw [rep_none u]
  | .seq l => by show Tr.seq (reps _ l) = _; rw [reps_none l]
  | .cho l => by show Tr.cho (reps _ l) = _; rw [reps_none l]
theorem reps_none : ∀ l : List Tr, reps (fun _ => Option.none) l = l
  | [] => rfl
  | t :: l => by show rep _ t :: reps _ l = _; rw [rep_none t, reps_none l]
end
theorem reps_len (tb : Str → Option Tr) : ∀ l : List Tr, (reps tb l).length = l.length
  | [] => rfl
  | t :: l => by show (reps tb l).length + 1 = l.length + 1; rw [reps_len tb l]
theorem reps_at {tb : Str → Option Tr} : ∀ {l : List Tr} {i : Nat} {t : Tr}, l[i]? = some t → (reps tb l)[i]? = some (rep tb t)
  | [], _, _, e => nomatch e
  | u :: l, 0, t, e => by
    injection e with e
    subst e
    rfl
  | u :: l, i + 1, t, e => reps_at (l := l) (i := i) e
/-- a table of trees, in the heap and told -/
def TabAt (G : Hp) (kvs : List (Key × V)) (tb : Str → Option Tr) (hb : Nat) : Prop :=
  ∀ x : Str, (valV kvs (Sum.inr x) = none ∧ tb x = none) ∨ ∃ y u, valV kvs (Sum.inr x) = some y ∧ tb x = some u ∧ TrAt G y u ∧ u.Wf ∧ u.height ≤ hb
theorem TabAt.same {G G' : Hp} {kvs : List (Key × V)} {tb : Str → Option Tr} {hb : Nat} (s : Same G G') (h : TabAt G kvs tb hb) : TabAt G' kvs tb hb := fun x =>
  (h x).imp id fun ⟨y, u, a, b, c, d⟩ => ⟨y, u, a, b, c.same s, d⟩
def spRep (m : Nat) : Sp := fun vs H Q _ => ∃ (G : Hp) (v : V) (t : Tr) (d : Addr) (kvs : List (Key × V)) (tb : Str → Option Tr) (hb : Nat), vs = [v, .ref d] ∧ Same G H ∧ TrAt G v t ∧ t.Wf ∧ H d = some (.dK kvs) ∧ TabAt G kvs tb hb ∧ t.height + hb ≤ m ∧
  ∀ v' H', Same H H' → Sealed G H (fun _ => False) v' (rep tb t) H' → Q v' H'
section
variable {P : Program} {w : World} {K : PySem.W.Frag} {mg : Str → Option Value} {base : Heap} {aS aL aK : Addr} {es eK : Array DictEntry} {n nK : Nat}
abbrev sreplaced : Stmt := top 43
theorem screplaced : FnScope ["tree", "table", "kind", "part"] ["tree", "table"] (defScope sreplaced) := ⟨rfl, rfl, rfl, by decide +kernel, rfl, by decide +kernel, by decide +kernel⟩
theorem ok_replaced {f f1 : Addr} {fd fd1 : FuncData} {m : Nat} (F : Fun K "replaced" "replaced" sreplaced f fd) (T : Txt w K mg base aS aL es n)
    (D_replaced : Df P w K mg base CX0 m "replaced" f1 fd1 ["tree", "table"] (spRep m)) : FnG P w K mg base CX0 (m + 1) f fd ["tree", "table"] (spRep (m + 1)) := by
  refine okG F screplaced (fun vs H Q E h => ?_) (fun cdv A outer s H vs Q E hc hr h => ?_)
  · obtain ⟨G, v, t, d, kvs, tb, hb, rfl, _⟩ := h
    rfl
  obtain ⟨G, v, t, d, kvs, tb, hb, rfl, sG, ht, hw, hd, htb, hm, q⟩ := h
  refine ⟨_, (pss_cons (ps_set (i := 2) screplaced.nd rfl (Or.inl rfl) (pe_ix ix_tup (pv 0) pe_int (fun _ _ => rfl)))
 (pss_cons (ps_if (PW.pt (pw_and (pt_cmpR op_eq (pv 2) pe_str (nomark _)) (pw_and1 (pt_cmp (pc_din (hu_of hr) (pe_ix ix_tup (pv 0) pe_int (fun _ _ => rfl)) (pv 1))))))
  (pss_one (ps_ret (pe_d D_replaced hc (hr.mono (by omega)) (by rfl) (fun _ => passN) (pa_cons (pe_dget (hu_of hr) (pv 1) (pe_ix ix_tup (pv 0) pe_int (fun _ _ => rfl)) (fun _ _ => rfl)) (pa_cons pe_dnewK pa_nil))))) pss_nil)
 (pss_cons (ps_if (pt_cmpR (op_in_kd T.d_SIGNS_BY_KIND) (pv 2) (pe_k (by rfl) T.g_SIGNS_BY_KIND) (by rfl))
  (pss_one (ps_ret (pe_tup (pa_cons (pv 2) (pa_cons (pe_d D_replaced hc (hr.mono (by omega)) (by rfl) (fun _ => passN) (pa_cons (pe_ix ix_tup (pv 0) pe_int (fun _ _ => rfl)) (pa_cons (pv 1) pa_nil))) pa_nil))))) pss_nil)
 (pss_cons (ps_if (pt_cmpR op_in_seq (pv 2) (pe_k (by rfl) T.g_LISTED) (by rfl))
  (pss_one (ps_ret (pe_tup (pa_cons (pv 2) (pa_cons (pe_lc (own := [("part", 3)]) (g := gName 3) rfl screplaced.nd (pi_list (pe_ix ix_tup (pv 0) pe_int (fun _ _ => rfl))) (blkOk_by (N := ["tree", "table", "kind", "part"]) (sc := defScope sreplaced) (by decide +kernel)) (fun _ _ _ _ _ => pg_name (i := 3) screplaced.nd rfl (Or.inl rfl)) (fun _ _ _ _ _ => pts_nil) (fun _ _ _ _ _ => (pe_d D_replaced hc (hr.mono (by omega)) (by rfl) (fun _ => passN) (pa_cons (pv 3) (pa_cons (pv 1) pa_nil))))) pa_nil))))) pss_nil)
 (pss_one (ps_ret (pv 0))))))), ?_⟩
  have z16 := sizeLine_eq
  obtain ⟨a, xs, rfl, ha0⟩ := ht.tup
  have ha := sG _ _ ha0
  have hq := SqT.of (K := K) ha
  have self : rep tb t = t → Q (.ref a) H := fun e => q _ H (Same.refl H) ⟨G, Same.refl G, sG, by rw [e]; exact ht, fun c e1 e2 => absurd e1 e2⟩
  refine ⟨_, rfl, a, _, _, _, rfl, rfl, hq, atI_nat (j := 0) rfl, ?_⟩
  refine ⟨_, rfl, rfl, _, rfl, ?_⟩
  rw [kindEq]
  -- behind the test of a name
  have rest : (∀ x, t = .name x → tb x = none) → (tSeq
      (tIfS (tTest (tOp (fun x y H_1 Q => ∃ z r, x = V.str z ∧ y = V.ref aS ∧ PySem.W.nsIn K aS z = some r ∧ Q (V.bl r.isSome) H_1) (tVar 2) (tC (V.ref aS))))
        (tRet (tTup (tCons (tVar 2) (tCons (tCallG (spRep m) [] (fun _ => E0) (tCons (tOp (rIxT K) (tVar 0) (tC (V.int 1))) (tCons (tVar 1) tNil))) tNil)))) tNext)
      (tSeq (tIfS (tTest (tOp (rIn K false) (tVar 2) (tC (V.ref aL))))
          (tRet (tTup (tCons (tVar 2) (tCons (tLc (iList K (tOp (rIxT K) (tVar 0) (tC (V.int 1)))) (gName 3) tYes (tCallG (spRep m) [] (fun _ => E0) (tCons (tVar 3) (tCons (tVar 1) tNil))) [3]) tNil)))) tNext)
        (tRet (tVar 0)))) { nx := fun _ H' => Q .non H', rt := Q } [some (.ref a), some (.ref d), some (.str t.kind), none] H := by
    intro hno
    obtain ⟨rs, hr1, hr2⟩ := T.i_SIGNS_BY_KIND t
    refine ⟨_, rfl, _, rs, rfl, rfl, hr1, _, rfl, ?_⟩
    rw [hr2]
    refine iteB (fun c7 => ?_) (fun c7 => ?_)
    · cases t with
      | sgn k u =>
        have hh : (Tr.sgn k u).height = u.height + 1 := rfl
        rw [hh] at hm
        cases ht with
        | sgn h g =>
          refine ⟨_, rfl, _, rfl, a, _, _, _, rfl, rfl, SqT.of (sG _ _ h), atI_nat (j := 1) rfl, _, rfl, G, _, u, d, kvs, tb, hb, rfl, sG, g, hw, hd, htb, by omega, fun v' H' sH sl => ⟨by show 2 ≤ sizeLine; omega, fun b hb' => ?_⟩⟩
          obtain ⟨G', a1, a2, a3, a4⟩ := sl
          refine q _ _ (fun c o h => by rw [upd_ne (ne_of_none (sH _ _ h) hb')]; exact sH _ _ h) ⟨upd G' b (.tup [.str (sSgn k), v']), fun c o h => ?_, fun c o h => ?_, .sgn upd_same (a3.same fun c o h => ?_), fun c e1 e2 => ?_⟩
          · rw [upd_ne (ne_of_none (a2 _ _ (a1 _ _ h)) hb')]
            exact a1 _ _ h
          · by_cases z : c = b
            · rw [z, upd_same] at h ⊢
              exact h
            · rw [upd_ne z] at h ⊢
              exact a2 _ _ h
          · rw [upd_ne (ne_of_none (a2 _ _ h) hb')]
            exact h
          · by_cases z : c = b
            · rw [z]
              refine .inr ?_
              cases e3 : H b with
              | none => rfl
              | some o => rw [sH _ _ e3] at hb'; exact nomatch hb'
            · rw [upd_ne z] at e2
              exact a4 c e1 e2
      | _ => exact nomatch c7
    refine ⟨_, rfl, aL, _, rfl, .inr (T.q_LISTED H), rfl, rfl, _, rfl, ?_⟩
    have lists : ∀ (b : Addr) (vl : List V) (l : List Tr), G a = some (.tup [.str t.kind, .ref b]) → G b = some (.lst vl) → TrsAt G vl l → Wfs l → l.length ≤ 100000 → t.height = heights l + 1 →
        (∀ (G' : Hp) (a' D : Addr) (vs' : List V), G' a' = some (.tup [.str t.kind, .ref D]) → G' D = some (.lst vs') → TrsAt G' vs' (reps tb l) → TrAt G' (.ref a') (rep tb t)) →
        (tRet (tTup (tCons (tVar 2) (tCons (tLc (iList K (tOp (rIxT K) (tVar 0) (tC (V.int 1)))) (gName 3) tYes (tCallG (spRep m) [] (fun _ => E0) (tCons (tVar 3) (tCons (tVar 1) tNil))) [3]) tNil)))) { nx := fun _ H' => Q .non H', rt := Q } [some (.ref a), some (.ref d), some (.str t.kind), none] H := by
      intro b vl l k1 k2 k3 hwl l3 hh mk
      rw [hh] at hm
      have lv := k3.length
      refine ⟨_, rfl, _, rfl, a, _, _, _, rfl, rfl, SqT.of (sG _ _ k1), atI_nat (j := 1) rfl, b, rfl, ⟨_, SqL.of (sG _ _ k2)⟩, fun D hD => ?_⟩
      have hGD : G D = none := by
        cases e : G D with
        | none => rfl
        | some o => rw [sG _ _ e] at hD; exact nomatch hD
      refine lc_list (xs := vl) (fun i H' => ∃ G' vs', H' D = some (.lst vs') ∧ TrsAt G' vs' ((reps tb l).take i) ∧ Same G G' ∧ Same G' H' ∧ Same H H' ∧ G' D = none ∧ ∀ c, G c = none → G' c ≠ none → H c = none)
        ⟨G, [], upd_same, .nil, Same.refl G, fun c u h => by rw [upd_ne (fun z => by rw [z, hGD] at h; exact nomatch h)]; exact sG _ _ h, fun c u h => by rw [upd_ne (ne_of_none h hD)]; exact h, hGD, fun c e1 e2 => absurd e1 e2⟩
        (fun i H' _ ⟨_, _, _, _, _, _, s, _⟩ => SqL.of (s _ _ (sG _ _ k2))) ?_ ?_
      · rintro i x Hh hx ⟨G', vs', g1, g2, g3, g4, g5, g6, g7⟩
        obtain ⟨u, e1, e2⟩ := k3.at hx
        have hu := heights_at e1
        have ilt : i < vl.length := (List.getElem?_eq_some_iff.mp hx).1
        refine ⟨wipe1 _ _ _, yes_go ?_⟩
        refine ⟨_, rfl, _, rfl, G', x, u, d, kvs, tb, hb, rfl, g4, e2.same g3, wfs_at hwl e1, g5 _ _ hd, htb.same g3, by omega, fun v' H' sH sl => ?_⟩
        obtain ⟨G2, a1, a2, a3, a4⟩ := sl
        have l2 := g2.length
        rw [List.length_take, reps_len] at l2
        have hG2D : G2 D = none := by
          cases e : G2 D with
          | none => rfl
          | some o =>
            exfalso
            rcases a4 D g6 (by rw [e]; exact fun z => nomatch z) with h | h
            · exact h
            · rw [g1] at h
              exact nomatch h
        refine ⟨vs', sH _ _ g1, by omega, G2, vs' ++ [v'], upd_same, ?_, g3.trans a1, fun c u h => ?_, fun c u h => ?_, hG2D, fun c e1 e2 => ?_⟩
        · rw [take_snoc (reps_at e1)]
          exact trs_append (g2.same a1) (.cons a3 .nil)
        · rw [upd_ne (fun z => by rw [z, hG2D] at h; exact nomatch h)]
          exact a2 _ _ h
        · rw [upd_ne (ne_of_none h hD)]
          exact sH _ _ (g5 _ _ h)
        · cases e : G' c with
          | some o => exact g7 c e1 (by rw [e]; exact fun z => nomatch z)
          | none =>
            rcases a4 c e e2 with h | h
            · exact h.elim
            · cases e3 : H c with
              | none => rfl
              | some o => rw [g5 _ _ e3] at h; exact nomatch h
      rintro H' ⟨G', vs', g1, g2, g3, g4, g5, g6, g7⟩
      rw [List.take_of_length_le (by rw [reps_len]; omega)] at g2
      refine ⟨by show 2 ≤ sizeLine; omega, fun a' ha' => q _ _ (fun c u h => by rw [upd_ne (ne_of_none (g5 _ _ h) ha')]; exact g5 _ _ h) ⟨upd (upd G' D (.lst vs')) a' (.tup [.str t.kind, .ref D]), fun c u h => ?_, fun c u h => ?_, ?_, fun c e1 e2 => ?_⟩⟩
      · have h' := g3 _ _ h
        rw [upd_ne (ne_of_none (g4 _ _ h') ha'), upd_ne (ne_of_none h' g6)]
        exact h'
      · by_cases z : c = a'
        · rw [z, upd_same] at h ⊢
          exact h
        · rw [upd_ne z] at h ⊢
          by_cases z2 : c = D
          · rw [z2, upd_same] at h
            rw [z2, g1]
            exact h
          · rw [upd_ne z2] at h
            exact g4 _ _ h
      · have nD : D ≠ a' := ne_of_none g1 ha'
        refine mk _ a' D vs' upd_same (by rw [upd_ne nD]; exact upd_same) (g2.same fun c u h => ?_)
        rw [upd_ne (ne_of_none (g4 _ _ h) ha'), upd_ne (ne_of_none h g6)]
        exact h
      · refine .inr ?_
        by_cases z : c = a'
        · rw [z]
          cases e3 : H a' with
          | none => rfl
          | some o => rw [g5 _ _ e3] at ha'; exact nomatch ha'
        · rw [upd_ne z] at e2
          by_cases z2 : c = D
          · rw [z2]
            exact hD
          · rw [upd_ne z2] at e2
            exact g7 c e1 e2
    refine iteB (fun c8 => ?_) (fun c8 => ?_)
    · rcases listed_of (show inV (.str t.kind) [V.str sSeq, V.str sCho] = true from c8) with ⟨l, rfl⟩ | ⟨l, rfl⟩
      · cases ht with
        | seq h1 h2 h3 => exact lists _ _ l h1 h2 h3 hw.2.2 hw.2.1 rfl (fun _ _ _ _ p1 p2 p3 => .seq p1 p2 p3)
      · cases ht with
        | cho h1 h2 h3 => exact lists _ _ l h1 h2 h3 hw.2.2 hw.2.1 rfl (fun _ _ _ _ p1 p2 p3 => .cho p1 p2 p3)
    · refine ⟨_, rfl, self ?_⟩
      cases t with
      | none => rfl
      | empty => rfl
      | letter c => rfl
      | name x => show (tb x).getD (.name x) = _; rw [hno x rfl]; rfl
      | sgn k u => exact nomatch c7
      | seq l => exact absurd (show inV (.str sSeq) [V.str sSeq, V.str sCho] = false from c8) (by decide +kernel)
      | cho l => exact absurd (show inV (.str sCho) [V.str sSeq, V.str sCho] = false from c8) (by decide +kernel)
  refine iteB (fun c => ?_) (fun c => ?_)
  · obtain ⟨x, rfl⟩ := nam_of c
    cases ht with
    | name h =>
      refine ⟨_, rfl, a, _, _, _, rfl, rfl, SqT.of (sG _ _ h), atI_nat (j := 1) rfl, _, rfl, d, _, rfl, .inl ⟨kvs, Sum.inr x, .inl hd, rfl, rfl⟩, ?_⟩
      refine ⟨_, rfl, ?_⟩
      rcases htb x with ⟨e1, e2⟩ | ⟨y, u, e1, e2, e3, e4, e5⟩
      · rw [e1]
        exact iteB (fun c => nomatch c) (fun _ => rest fun x' e => by
          injection e with e
          rw [← e]
          exact e2)
      · rw [e1]
        refine iteT ?_
        have hh : (Tr.name x).height = 1 := rfl
        rw [hh] at hm
        refine ⟨_, rfl, _, rfl, a, _, _, _, rfl, rfl, SqT.of (sG _ _ h), atI_nat (j := 1) rfl, d, y, rfl, .inl ⟨kvs, Sum.inr x, .inl hd, rfl, e1.symm⟩, fun e he => ?_⟩
        have s1 : Same H (upd H e (.dK [])) := fun c o h => by rw [upd_ne (ne_of_none h he)]; exact h
        refine ⟨G, y, u, e, [], fun _ => none, 0, rfl, sG.trans s1, e3, e4, upd_same, fun _ => .inl ⟨rfl, rfl⟩, by omega, fun v' H' sH sl => q v' H' (s1.trans sH) ?_⟩
        obtain ⟨G', a1, a2, a3, a4⟩ := sl
        refine ⟨G', a1, a2, ?_, fun c e6 e7 => ?_⟩
        · have er : rep tb (.name x) = u := by
            show (tb x).getD (.name x) = u
            rw [e2]
            rfl
          rw [er]
          rw [rep_none] at a3
          exact a3
        · rcases a4 c e6 e7 with h | h
          · exact .inl h
          · refine .inr ?_
            by_cases z : c = e
            · rw [z]
              exact he
            · rw [upd_ne z] at h
              exact h
  · exact iteF (rest fun x e => by subst e; exact absurd (show decide (sName = Str.ofString "name") = false from c) (by decide +kernel))
end
end KT

namespace KT
open PySem L2 Gd
/-- the pool at p, its counter at most m -/
def BoxC (H : Hp) (p : Addr) (m : Nat) : Prop := ∃ a b c : Int, H p = some (.lst [.int a, .int b, .int c]) ∧ 0 ≤ b ∧ b < 2147483647 ∧ 0 ≤ c ∧ c ≤ m
/-- it has turned, nothing else -/
def TurnC (H H' : Hp) (p : Addr) (m : Nat) : Prop := BoxC H' p m ∧ ∀ q, q ≠ p → H' q = H q
def spBoxC : Sp := fun vs H Q _ => ∃ z : Int, vs = [.int z] ∧ ∀ (p : Addr) (o : HO), H p = none → BoxC (upd H p o) p 0 → Q (.ref p) (upd H p o)
def spTakeC : Sp := fun vs H Q _ => ∃ (p : Addr) (n : Int) (m : Nat), vs = [.ref p, .int n] ∧ BoxC H p m ∧ m < 100000 ∧ 0 < n ∧ n < 1000000 ∧ ∀ (d : Int) (H' : Hp), 0 ≤ d → d < n → TurnC H H' p (m + 1) → Q (.int d) H'
section
variable {P : Program} {w : World} {K : PySem.W.Frag} {mg : Str → Option Value} {base : Heap} {aS aL C_L f_L C_U f_U : Addr} {es : Array DictEntry} {n : Nat}
abbrev s_law_cell : Stmt := top 45
theorem sc_law_cell : FnScope ["_law_script", "_law_k"] ["_law_script", "_law_k"] (defScope s_law_cell) := ⟨rfl, rfl, rfl, by decide +kernel, rfl, by decide +kernel, by decide +kernel⟩
theorem ok_cell {f : Addr} {fd : FuncData} (F : Fun K "_law_cell" "_law_cell" s_law_cell f fd) (T : Txt w K mg base aS aL es n) : FnG P w K mg base CX0 1 f fd ["_law_script", "_law_k"] (spScr K) := by
  refine okG F sc_law_cell (fun vs H Q E h => ?_) (fun cdv A outer s H vs Q E hc hr h => ?_)
  · obtain ⟨p, ns, k, rfl, _⟩ := h
    rfl
  obtain ⟨p, ns, k, rfl, hs, k0, k1, q⟩ := h
  refine ⟨_, (pss_cons (ps_if (pt_cmpR op_lt (pv 1) (pe_callB call_len_seq (by rfl) T.z_len (by decide +kernel) (pa_cons (pv 0) pa_nil)) (nomark _))
  (pss_one (ps_ret (pe_ix ix_list (pv 0) (pv 1) (fun _ _ => rfl)))) pss_nil)
 (pss_one (ps_ret (pe_op op_add (pe_op op_mul pe_int (pv 1)) pe_int)))), ?_⟩
  refine ⟨_, rfl, _, rfl, p, _, rfl, .inl hs, _, _, rfl, rfl, _, rfl, ?_⟩
  refine ite2 (fun c => ?_) (fun c => ?_)
  · have c1 := of_decide_eq_true c
    rw [List.length_map] at c1
    obtain ⟨z, hz⟩ := at_script k0 c1
    exact ⟨_, rfl, _, rfl, p, _, _, _, rfl, rfl, hs, hz, q z⟩
  · exact ⟨_, rfl, _, _, rfl, rfl, .inl ⟨by decide, by decide⟩, _, _, rfl, rfl, q _⟩
abbrev s_law_box : Stmt := top 46
theorem sc_law_box : FnScope ["_law_cell_here"] ["_law_cell_here"] (defScope s_law_box) := ⟨rfl, rfl, rfl, by decide +kernel, rfl, by decide +kernel, by decide +kernel⟩
theorem ok_box {f : Addr} {fd : FuncData} (F : Fun K "_law_box" "_law_box" s_law_box f fd) (zm : mg "max" = none) : FnG P w K mg base CX0 1 f fd ["_law_cell_here"] spBoxC := by
  refine okG F sc_law_box (fun vs H Q E h => ?_) (fun cdv A outer s H vs Q E hc hr h => ?_)
  · obtain ⟨z, rfl, _⟩ := h
    rfl
  obtain ⟨z, rfl, q⟩ := h
  refine ⟨_, (pss_one (ps_ret (pe_lst (pa_cons (pe_callB (call_max2 rfl) (by rfl) zm (by decide +kernel) (pa_cons pe_int (pa_cons (pe_op op_sub (pv 0) (pe_op op_pow pe_int pe_int)) pa_nil))) (pa_cons (pe_op op_mod (pv 0) pe_int) (pa_cons pe_int pa_nil)))))), ?_⟩
  refine ⟨_, rfl, _, _, rfl, rfl, ⟨by decide, by decide, by decide⟩, _, _, rfl, rfl, _, _, rfl, _, rfl, _, _, rfl, rfl, (by show (0 : Int) < 2147483629; decide), ?_⟩
  refine ⟨(by show 3 ≤ sizeLine; decide), fun p hp => q p _ hp ⟨_, _, _, upd_same, ?_⟩⟩
  have := mod_pos (i := z) (j := 2147483629) (by decide)
  omega
abbrev s_law_take : Stmt := top 47
theorem sc_law_take : FnScope ["_law_box_here", "_law_many_here", "_law_digit", "_law_one", "_law_two"] ["_law_box_here", "_law_many_here"] (defScope s_law_take) := ⟨rfl, rfl, rfl, by decide +kernel, rfl, by decide +kernel, by decide +kernel⟩
theorem ok_take {f : Addr} {fd : FuncData} (F : Fun K "_law_take" "_law_take" s_law_take f fd) : FnG P w K mg base CX0 1 f fd ["_law_box_here", "_law_many_here"] spTakeC := by
  refine okG F sc_law_take (fun vs H Q E h => ?_) (fun cdv A outer s H vs Q E hc hr h => ?_)
  · obtain ⟨p, n, m, rfl, _⟩ := h
    rfl
  obtain ⟨p, n, m, rfl, ⟨a, b, c, hp, b0, b1, c0, c1⟩, hm, n0, n1, k⟩ := h
  refine ⟨_, (pss_cons (ps_if (pt_cmpR op_gt (pe_ix ix_list (pv 0) pe_int (fun _ _ => rfl)) pe_int (nomark _))
  (pss_cons (ps_set (i := 2) sc_law_take.nd rfl (Or.inl rfl) (pe_op op_mod (pe_ix ix_list (pv 0) pe_int (fun _ _ => rfl)) (pv 1)))
 (pss_cons (ps_asg (pe_op op_fdivW (pe_ix ix_list (pv 0) pe_int (fun _ _ => rfl)) (pv 1)) (pg_sub (pv 0) pe_int set_list))
 (pss_one (ps_ret (pv 2))))) pss_nil)
 (pss_cons (ps_asg (pe_op op_add (pe_ix ix_list (pv 0) pe_int (fun _ _ => rfl)) pe_int) (pg_sub (pv 0) pe_int set_list))
 (pss_cons (ps_set (i := 3) sc_law_take.nd rfl (Or.inl rfl) (pe_op op_mod (pe_op op_pow (pe_op op_add (pe_op op_add (pe_ix ix_list (pv 0) pe_int (fun _ _ => rfl)) (pe_op op_mul pe_int (pe_ix ix_list (pv 0) pe_int (fun _ _ => rfl)))) pe_int) pe_int) pe_int))
 (pss_cons (ps_set (i := 4) sc_law_take.nd rfl (Or.inl rfl) (pe_op op_mod (pe_op op_pow (pe_op op_add (pe_op op_add (pe_op op_fdivW (pv 3) pe_int) (pe_op op_mul pe_int (pe_ix ix_list (pv 0) pe_int (fun _ _ => rfl)))) pe_int) pe_int) pe_int))
 (pss_one (ps_ret (pe_op op_mod (pe_op op_add (pe_op op_fdivW (pv 3) pe_int) (pe_op op_mul pe_int (pe_op op_fdivW (pv 4) pe_int))) (pv 1)))))))), ?_⟩
  refine ⟨_, rfl, p, _, _, _, rfl, rfl, SqL.of hp, atI_nat (j := 0) rfl, _, _, rfl, rfl, _, rfl, ?_⟩
  refine ite2 (fun ha => ?_) (fun ha => ?_)
  · refine ⟨_, rfl, p, _, _, _, rfl, rfl, SqL.of hp, atI_nat (j := 0) rfl, _, rfl, _, _, rfl, rfl, n0, ?_⟩
    refine ⟨_, rfl, p, _, _, _, rfl, rfl, SqL.of hp, atI_nat (j := 0) rfl, _, rfl, _, _, rfl, rfl, wide_div (b := 20) n0 (by omega) (by decide) (by decide), ?_⟩
    refine ⟨_, rfl, p, _, _, 0, rfl, rfl, hp, rfl, _, rfl, ?_⟩
    exact k _ _ (mod_pos n0).1 (mod_pos n0).2 ⟨⟨_, _, _, upd_same, b0, b1, c0, by omega⟩, fun q hq => upd_ne hq⟩
  · refine ⟨_, rfl, p, _, _, _, rfl, rfl, SqL.of hp, atI_nat (j := 2) rfl, _, _, rfl, rfl, ?_⟩
    refine ⟨_, rfl, p, _, _, 2, rfl, rfl, hp, rfl, ?_⟩
    have h1 : ∀ {z : V}, (upd H p (.lst ([V.int a, .int b, .int c].set 2 z))) p = some (.lst [.int a, .int b, z]) := upd_same
    refine ⟨_, rfl, p, _, _, _, rfl, rfl, SqL.of h1, atI_nat (j := 1) rfl, _, rfl, p, _, _, _, rfl, rfl, SqL.of h1, atI_nat (j := 2) rfl, _, _, rfl, rfl, .inl ⟨by decide, by decide⟩, _, _, rfl, rfl, _, _, rfl, rfl, ?_⟩
    refine ⟨_, _, rfl, rfl, ⟨by decide, by decide, ?_⟩, _, _, rfl, rfl, (by show (0 : Int) < 2147483647; decide), ?_⟩
    · show (b + 7919 * (c + 1) + 29).natAbs < 2 ^ 64
      omega
    have m0 := mod_pos (i := (b + 7919 * (c + 1) + 29) ^ (5 : Int).toNat) (j := 2147483647) (by decide)
    refine ⟨_, rfl, _, _, rfl, rfl, wide_div (b := 5) (by decide) (by decide) (by decide) (by decide), ?_⟩
    generalize (b + 7919 * (c + 1) + 29) ^ (5 : Int).toNat % 2147483647 = one at m0
    refine ⟨_, rfl, p, _, _, _, rfl, rfl, SqL.of h1, atI_nat (j := 2) rfl, _, _, rfl, rfl, .inl ⟨by decide, by decide⟩, _, _, rfl, rfl, _, _, rfl, rfl, ?_⟩
    refine ⟨_, _, rfl, rfl, ⟨by decide, by decide, ?_⟩, _, _, rfl, rfl, (by show (0 : Int) < 2147483629; decide), ?_⟩
    · show (one / 8 + 104729 * (c + 1) + 11).natAbs < 2 ^ 64
      have := Int.ediv_nonneg m0.1 (show (0 : Int) ≤ 8 by decide)
      have := Int.ediv_le_self 8 m0.1
      omega
    refine ⟨_, rfl, _, _, rfl, rfl, wide_div (b := 5) (by decide) (by decide) (by decide) (by decide), _, rfl, _, _, rfl, rfl, wide_div (b := 5) (by decide) (by decide) (by decide) (by decide), ?_⟩
    refine ⟨_, _, rfl, rfl, .inl ⟨by decide, by decide⟩, _, _, rfl, rfl, _, rfl, _, _, rfl, rfl, n0, ?_⟩
    exact k _ _ (mod_pos n0).1 (mod_pos n0).2 ⟨⟨_, _, _, upd_same, b0, b1, by omega, by omega⟩, fun q hq => upd_ne hq⟩
end
end KT

namespace Gd
open PySem L2
theorem sIx_nat {n d i : Nat} (h : i ≤ n) : HT.sIx n d (some (i : Int)) = i := by
  rw [HT.sIx_nat, Nat.min_eq_left h]
theorem cut_to {xs : List V} {i : Nat} (h : i ≤ xs.length) : cutV xs none (some (i : Int)) = xs.take i := by
  unfold cutV
  rw [sIx_nat h]
  show (xs.drop 0).take (i - 0) = _
  rw [List.drop_zero, Nat.sub_zero]
theorem cut_from {xs : List V} {i : Nat} (h : i ≤ xs.length) : cutV xs (some (i : Int)) none = xs.drop i := by
  unfold cutV
  rw [sIx_nat h]
  show (xs.drop i).take (xs.length - i) = _
  exact List.take_of_length_le (by rw [List.length_drop]; omega)
theorem cut_mid {xs : List V} {i k : Nat} (h : i + k ≤ xs.length) : cutV xs (some (i : Int)) (some ((i + k : Nat) : Int)) = (xs.drop i).take k := by
  unfold cutV
  rw [sIx_nat h, sIx_nat (d := 0) (show i ≤ xs.length by omega), Nat.add_sub_cancel_left]
theorem ixN_nat {n i : Nat} (h : i < n) : ixN n (i : Int) = some i := by
  unfold ixN
  rw [if_pos (by omega), if_pos (by omega)]
  rfl
end Gd

namespace KT
open PySem L2 Gd
theorem none_of {H H' : Hp} {a : Addr} (s : Same H H') (h : H' a = none) : H a = none := by
  cases e : H a with
  | none => rfl
  | some o => rw [s _ _ e] at h; exact nomatch h
def ab : Tr → Prop := fun _ => True
def abs : List Tr → Prop := fun _ => True
/-- a tree as the law draws it -/
def Gt (h : Nat) (t : Tr) : Prop := t.Wf ∧ ab t ∧ t.height ≤ h
def Gts (h : Nat) (ts : List Tr) : Prop := ∀ t ∈ ts, Gt h t
theorem BoxC.up {H : Hp} {p : Addr} {m k : Nat} (h : BoxC H p m) (e : m ≤ k) : BoxC H p k := let ⟨a, b, c, h1, h2, h3, h4, h5⟩ := h; ⟨a, b, c, h1, h2, h3, h4, by omega⟩
def TI (H0 H' : Hp) (p S : Addr) (m : Nat) (ts : List Tr) : Prop :=
  ∃ G vs, H' S = some (.lst vs) ∧ TrsAt G vs ts ∧ Same G H' ∧ G S = none ∧ G p = none ∧ H0 S = none ∧ S ≠ p ∧ BoxC H' p m ∧ ∀ c o, c ≠ p → H0 c = some o → H' c = some o
theorem TI.turn {H0 H1 H2 : Hp} {p S : Addr} {m k : Nat} {ts : List Tr} (h : TI H0 H1 p S m ts) (t : TurnC H1 H2 p k) : TI H0 H2 p S k ts := by
  obtain ⟨G, vs, a1, a2, a3, a4, a5, a6, a7, a8, a9⟩ := h
  refine ⟨G, vs, by rw [t.2 S a7]; exact a1, a2, fun c o e => ?_, a4, a5, a6, a7, t.1, fun c o n e => by rw [t.2 c n]; exact a9 c o n e⟩
  rw [t.2 c (fun z => by rw [z, a5] at e; exact nomatch e)]
  exact a3 c o e
theorem TI.new {H0 H1 : Hp} {p S q : Addr} {m : Nat} {ts : List Tr} {o : HO} (h : TI H0 H1 p S m ts) (hq : H1 q = none) : TI H0 (upd H1 q o) p S m ts := by
  obtain ⟨G, vs, a1, a2, a3, a4, a5, a6, a7, ⟨x, y, z, b1, b2⟩, a9⟩ := h
  exact ⟨G, vs, by rw [upd_ne (ne_of_none a1 hq)]; exact a1, a2, fun c o e => by rw [upd_ne (ne_of_none (a3 c o e) hq)]; exact a3 c o e, a4, a5, a6, a7, ⟨x, y, z, by rw [upd_ne (ne_of_none b1 hq)]; exact b1, b2⟩,
    fun c o n e => by rw [upd_ne (ne_of_none (a9 c o n e) hq)]; exact a9 c o n e⟩
theorem TI.ex {H0 H1 : Hp} {p S : Addr} {m : Nat} {ts : List Tr} (h : TI H0 H1 p S m ts) : ∃ vs, H1 S = some (.lst vs) ∧ vs.length = ts.length ∧ S ≠ p := let ⟨_, vs, a, b, _, _, _, _, c, _⟩ := h; ⟨vs, a, b.length, c⟩
theorem TI.old {H0 H1 : Hp} {p S c : Addr} {m : Nat} {ts : List Tr} {o : HO} (h : TI H0 H1 p S m ts) (n : c ≠ p) (e : H0 c = some o) : H1 c = some o := let ⟨_, _, _, _, _, _, _, _, _, _, a9⟩ := h; a9 c o n e
theorem ne_keep {H : Hp} {a e : Addr} {o u : HO} (he : H e = none) (h : H a = some o) : upd H e u a = some o := by rw [upd_ne (ne_of_none h he)]; exact h
/-- a tree more -/
def Leaf (H0 H' : Hp) (p S : Addr) (m : Nat) (ts : List Tr) (v : V) (t : Tr) : Prop :=
  ∃ G vs, H' S = some (.lst vs) ∧ TrsAt G vs ts ∧ TrAt G v t ∧ Same G H' ∧ G S = none ∧ G p = none ∧ H0 S = none ∧ S ≠ p ∧ BoxC H' p m ∧ ∀ c o, c ≠ p → H0 c = some o → H' c = some o
theorem TI.box {H0 H1 : Hp} {p S : Addr} {m : Nat} {ts : List Tr} (h : TI H0 H1 p S m ts) : BoxC H1 p m := let ⟨_, _, _, _, _, _, _, _, _, a8, _⟩ := h; a8
theorem Leaf.box {H0 H1 : Hp} {p S : Addr} {m : Nat} {ts : List Tr} {v : V} {u : Tr} (h : Leaf H0 H1 p S m ts v u) : BoxC H1 p m := let ⟨_, _, _, _, _, _, _, _, _, _, a8, _⟩ := h; a8
theorem Leaf.turn {H0 H1 H2 : Hp} {p S : Addr} {m k : Nat} {ts : List Tr} {v : V} {u : Tr} (h : Leaf H0 H1 p S m ts v u) (t : TurnC H1 H2 p k) : Leaf H0 H2 p S k ts v u := by
  obtain ⟨G, vs, a1, a2, a2', a3, a4, a5, a6, a7, a8, a9⟩ := h
  refine ⟨G, vs, by rw [t.2 S a7]; exact a1, a2, a2', fun c o e => ?_, a4, a5, a6, a7, t.1, fun c o n e => by rw [t.2 c n]; exact a9 c o n e⟩
  rw [t.2 c (fun z => by rw [z, a5] at e; exact nomatch e)]
  exact a3 c o e
theorem Leaf.new {H0 H1 : Hp} {p S q : Addr} {m : Nat} {ts : List Tr} {o : HO} {v : V} {u : Tr} (h : Leaf H0 H1 p S m ts v u) (hq : H1 q = none) : Leaf H0 (upd H1 q o) p S m ts v u := by
  obtain ⟨G, vs, a1, a2, a2', a3, a4, a5, a6, a7, ⟨x, y, z, b1, b2⟩, a9⟩ := h
  exact ⟨G, vs, by rw [upd_ne (ne_of_none a1 hq)]; exact a1, a2, a2', fun c o e => by rw [upd_ne (ne_of_none (a3 c o e) hq)]; exact a3 c o e, a4, a5, a6, a7, ⟨x, y, z, by rw [upd_ne (ne_of_none b1 hq)]; exact b1, b2⟩,
    fun c o n e => by rw [upd_ne (ne_of_none (a9 c o n e) hq)]; exact a9 c o n e⟩
/-- a new tuple that is a tree -/
theorem TI.tup {H0 H1 : Hp} {p S q : Addr} {m : Nat} {ts : List Tr} {xs : List V} {t : Tr} (h : TI H0 H1 p S m ts) (hq : H1 q = none) (ht : ∀ G : Hp, G q = some (.tup xs) → TrAt G (.ref q) t) : Leaf H0 (upd H1 q (.tup xs)) p S m ts (.ref q) t := by
  obtain ⟨G, vs, a1, a2, a3, a4, a5, a6, a7, ⟨x, y, z, b1, b2⟩, a9⟩ := h
  have Sq : S ≠ q := ne_of_none a1 hq
  have pq : p ≠ q := ne_of_none b1 hq
  have Gq : G q = none := none_of a3 hq
  refine ⟨upd G q (.tup xs), vs, by rw [upd_ne Sq]; exact a1, a2.same fun c o e => by rw [upd_ne (ne_of_none e Gq)]; exact e, ht _ upd_same, fun c o e => ?_, by rw [upd_ne Sq]; exact a4, by rw [upd_ne pq]; exact a5, a6, a7, ⟨x, y, z, by rw [upd_ne pq]; exact b1, b2⟩,
    fun c o n e => by rw [upd_ne (ne_of_none (a9 c o n e) hq)]; exact a9 c o n e⟩
  by_cases c1 : c = q
  · rw [c1, upd_same] at e ⊢
    exact e
  · rw [upd_ne c1] at e ⊢
    exact a3 c o e
/-- it is appended -/
theorem Leaf.app {H0 H1 : Hp} {p S : Addr} {m : Nat} {ts : List Tr} {v : V} {t : Tr} (h : Leaf H0 H1 p S m ts v t) : ∃ vs, H1 S = some (.lst vs) ∧ vs.length = ts.length ∧ TI H0 (upd H1 S (.lst (vs ++ [v]))) p S m (ts ++ [t]) := by
  obtain ⟨G, vs, a1, a2, a2', a3, a4, a5, a6, a7, ⟨x, y, z, b1, b2⟩, a9⟩ := h
  refine ⟨vs, a1, a2.length, G, vs ++ [v], upd_same, trs_append a2 (.cons a2' .nil), fun c o e => ?_, a4, a5, a6, a7, ⟨x, y, z, by rw [upd_ne a7.symm]; exact b1, b2⟩, fun c o n e => ?_⟩
  · rw [upd_ne (fun z => by rw [z, a4] at e; exact nomatch e)]
    exact a3 c o e
  · rw [upd_ne (fun z => by rw [z, a6] at e; exact nomatch e)]
    exact a9 c o n e
/-- with the list and the trees' part told -/
def TV (H0 H' : Hp) (p S : Addr) (m : Nat) (G : Hp) (vs : List V) (ts : List Tr) : Prop :=
  H' S = some (.lst vs) ∧ TrsAt G vs ts ∧ Same G H' ∧ G S = none ∧ G p = none ∧ H0 S = none ∧ S ≠ p ∧ BoxC H' p m ∧ ∀ c o, c ≠ p → H0 c = some o → H' c = some o
theorem TV.box {H0 H1 G : Hp} {p S : Addr} {m : Nat} {vs : List V} {ts : List Tr} (h : TV H0 H1 p S m G vs ts) : BoxC H1 p m := h.2.2.2.2.2.2.2.1
theorem TV.turn {H0 H1 H2 G : Hp} {p S : Addr} {m k : Nat} {vs : List V} {ts : List Tr} (h : TV H0 H1 p S m G vs ts) (t : TurnC H1 H2 p k) : TV H0 H2 p S k G vs ts := by
  obtain ⟨a1, a2, a3, a4, a5, a6, a7, a8, a9⟩ := h
  refine ⟨by rw [t.2 S a7]; exact a1, a2, fun c o e => ?_, a4, a5, a6, a7, t.1, fun c o n e => by rw [t.2 c n]; exact a9 c o n e⟩
  rw [t.2 c (fun z => by rw [z, a5] at e; exact nomatch e)]
  exact a3 c o e
theorem TV.new {H0 H1 G : Hp} {p S q : Addr} {m : Nat} {vs : List V} {ts : List Tr} {o : HO} (h : TV H0 H1 p S m G vs ts) (hq : H1 q = none) : TV H0 (upd H1 q o) p S m G vs ts := by
  obtain ⟨a1, a2, a3, a4, a5, a6, a7, ⟨x, y, z, b1, b2⟩, a9⟩ := h
  exact ⟨ne_keep hq a1, a2, fun c o e => ne_keep hq (a3 c o e), a4, a5, a6, a7, ⟨x, y, z, ne_keep hq b1, b2⟩, fun c o n e => ne_keep hq (a9 c o n e)⟩
theorem trs_set {G : Hp} : ∀ {vs : List V} {ts : List Tr} {j : Nat} {v : V} {t : Tr}, TrsAt G vs ts → TrAt G v t → TrsAt G (vs.set j v) (ts.set j t)
  | _, _, _, _, _, .nil, _ => .nil
  | _, _, 0, _, _, .cons _ r, h => .cons h r
  | _, _, j + 1, _, _, .cons k r, h => .cons k (trs_set (j := j) r h)
theorem TV.wrap {H0 H1 G : Hp} {p S q : Addr} {m j : Nat} {vs : List V} {ts : List Tr} {v : V} {t : Tr} (h : TV H0 H1 p S m G vs ts) (hq : H1 q = none) (k : _root_.Fin 3) (hv : vs[j]? = some v) (ht : ts[j]? = some t) :
    (upd H1 q (.tup [.str (sSgn k), v])) S = some (.lst vs) ∧ TV H0 (upd (upd H1 q (.tup [.str (sSgn k), v])) S (.lst (vs.set j (.ref q)))) p S m (upd G q (.tup [.str (sSgn k), v])) (vs.set j (.ref q)) (ts.set j (.sgn k t)) := by
  obtain ⟨a1, a2, a3, a4, a5, a6, a7, ⟨x, y, z, b1, b2⟩, a9⟩ := h
  have Sq : S ≠ q := ne_of_none a1 hq
  have pq : p ≠ q := ne_of_none b1 hq
  have Gq : G q = none := none_of a3 hq
  have up : Same G (upd G q (.tup [.str (sSgn k), v])) := fun c o e => ne_keep Gq e
  obtain ⟨t', e1, e2⟩ := a2.at hv
  rw [ht] at e1
  cases e1
  refine ⟨ne_keep hq a1, upd_same, trs_set (a2.same up) (.sgn upd_same (e2.same up)), fun c o e => ?_, by rw [upd_ne Sq]; exact a4, by rw [upd_ne pq]; exact a5, a6, a7, ⟨x, y, z, by rw [upd_ne a7.symm]; exact ne_keep hq b1, b2⟩, fun c o n e => ?_⟩
  · have cS : c ≠ S := fun z => by rw [z, upd_ne Sq, a4] at e; exact nomatch e
    rw [upd_ne cS]
    by_cases c1 : c = q
    · rw [c1, upd_same] at e ⊢
      exact e
    · rw [upd_ne c1] at e ⊢
      exact a3 c o e
  · rw [upd_ne (fun z => by rw [z, a6] at e; exact nomatch e)]
    exact ne_keep hq (a9 c o n e)
theorem trs_take {G : Hp} : ∀ {vs : List V} {ts : List Tr} (j : Nat), TrsAt G vs ts → TrsAt G (vs.take j) (ts.take j)
  | _, _, 0, _ => .nil
  | _, _, _ + 1, .nil => .nil
  | _, _, j + 1, .cons h r => .cons h (trs_take j r)
theorem trs_drop {G : Hp} : ∀ {vs : List V} {ts : List Tr} (j : Nat), TrsAt G vs ts → TrsAt G (vs.drop j) (ts.drop j)
  | _, _, 0, h => h
  | _, _, _ + 1, .nil => .nil
  | _, _, j + 1, .cons _ r => trs_drop j r
/-- the list is another one now -/
theorem TV.move {H0 H1 G : Hp} {p S S' : Addr} {m : Nat} {vs vs' : List V} {ts ts' : List Tr} (h : TV H0 H1 p S m G vs ts) (hq : H1 S' = none) (ht : TrsAt G vs' ts') : TV H0 (upd H1 S' (.lst vs')) p S' m G vs' ts' := by
  obtain ⟨a1, a2, a3, a4, a5, a6, a7, ⟨x, y, z, b1, b2⟩, a9⟩ := h
  have pq : p ≠ S' := ne_of_none b1 hq
  refine ⟨upd_same, ht, fun c o e => ne_keep hq (a3 c o e), none_of a3 hq, a5, ?_, pq.symm, ⟨x, y, z, ne_keep hq b1, b2⟩, fun c o n e => ne_keep hq (a9 c o n e)⟩
  cases e : H0 S' with
  | none => rfl
  | some o => rw [a9 S' o pq.symm e] at hq; exact nomatch hq
/-- a list of trees and its pair -/
theorem TV.pair {H0 H1 G : Hp} {p S qB qT : Addr} {m : Nat} {vs B : List V} {ts Bt : List Tr} {x : Str} (h : TV H0 H1 p S m G vs ts) (hB : H1 qB = none) (hT : (upd H1 qB (.lst B)) qT = none) (b : TrsAt G B Bt) :
    TV H0 (upd (upd H1 qB (.lst B)) qT (.tup [.str x, .ref qB])) p S m (upd (upd G qB (.lst B)) qT (.tup [.str x, .ref qB])) vs ts ∧ Same G (upd (upd G qB (.lst B)) qT (.tup [.str x, .ref qB])) ∧
    (upd (upd G qB (.lst B)) qT (.tup [.str x, .ref qB])) qT = some (.tup [.str x, .ref qB]) ∧ (upd (upd G qB (.lst B)) qT (.tup [.str x, .ref qB])) qB = some (.lst B) ∧ TrsAt (upd (upd G qB (.lst B)) qT (.tup [.str x, .ref qB])) B Bt := by
  have h2 := (h.new (o := .lst B) hB).new (o := .tup [.str x, .ref qB]) hT
  obtain ⟨c1, _, _, _, _, c6, c7, c8, c9⟩ := h2
  obtain ⟨a1, a2, a3, a4, a5, a6, a7, ⟨y1, y2, y3, b1, b2⟩, a9⟩ := h
  have GB : G qB = none := none_of a3 hB
  have BT : qB ≠ qT := fun z => by rw [← z, upd_same] at hT; exact nomatch hT
  have HT : H1 qT = none := by rw [upd_ne BT.symm] at hT; exact hT
  have GT : (upd G qB (.lst B)) qT = none := by rw [upd_ne BT.symm]; exact none_of a3 HT
  have up : Same G (upd (upd G qB (.lst B)) qT (.tup [.str x, .ref qB])) := fun c o e => ne_keep GT (ne_keep GB e)
  refine ⟨⟨c1, a2.same up, fun c o e => ?_, ?_, ?_, c6, c7, c8, c9⟩, up, upd_same, by rw [upd_ne BT]; exact upd_same, b.same up⟩
  · by_cases z : c = qT
    · rw [z, upd_same] at e ⊢
      exact e
    · rw [upd_ne z] at e ⊢
      by_cases z2 : c = qB
      · rw [z2, upd_same] at e ⊢
        exact e
      · rw [upd_ne z2] at e ⊢
        exact a3 c o e
  · rw [upd_ne (ne_of_none a1 HT), upd_ne (ne_of_none a1 hB)]
    exact a4
  · rw [upd_ne (ne_of_none b1 HT), upd_ne (ne_of_none b1 hB)]
    exact a5
theorem nds_parts (ts : List Tr) (a b : Nat) : nds ts = nds (ts.take a) + nds ((ts.drop a).take b) + nds (ts.drop (a + b)) := by
  have e1 : ts = ts.take a ++ ((ts.drop a).take b ++ (ts.drop a).drop b) := by rw [List.take_append_drop, List.take_append_drop]
  have e2 := congrArg nds e1
  rw [nds_app, nds_app, List.drop_drop] at e2
  omega
theorem nd_le : ∀ {ts : List Tr} {j : Nat} {t : Tr}, ts[j]? = some t → nd t ≤ nds ts
  | [], _, _, e => nomatch e
  | u :: l, 0, t, e => by
    injection e with e
    subst e
    exact Nat.le_add_right _ _
  | u :: l, j + 1, t, e => Nat.le_trans (nd_le (ts := l) (j := j) e) (Nat.le_add_left _ _)
theorem heights_le {h : Nat} (pos : 1 ≤ h) : ∀ {l : List Tr}, (∀ t ∈ l, t.height ≤ h) → heights l ≤ h
  | [], _ => pos
  | t :: l, e => by
    show max t.height (heights l) ≤ h
    have h1 := e t (.head _)
    have h2 := heights_le pos (l := l) fun u hu => e u (.tail _ hu)
    omega
theorem wfs_of : ∀ {l : List Tr}, (∀ t ∈ l, t.Wf) → Wfs l
  | [], _ => trivial
  | t :: l, e => ⟨e t (.head _), wfs_of fun u hu => e u (.tail _ hu)⟩
theorem abs_of : ∀ {l : List Tr}, (∀ t ∈ l, ab t) → abs l := fun _ => trivial
theorem Gts.pos {h : Nat} {l : List Tr} (g : Gts h l) (h2 : 2 ≤ l.length) : 1 ≤ h := by
  cases l with
  | nil => exact absurd h2 (by decide)
  | cons t l => exact Nat.le_trans (height_pos t) (g t (.head _)).2.2
theorem Gts.seq {h : Nat} {l : List Tr} (g : Gts h l) (h2 : 2 ≤ l.length) (h3 : l.length ≤ 100000) : Gt (h + 1) (.seq l) := ⟨⟨h2, h3, wfs_of fun t ht => (g t ht).1⟩, abs_of fun t ht => (g t ht).2.1, Nat.succ_le_succ (heights_le (g.pos h2) fun t ht => (g t ht).2.2)⟩
theorem Gts.cho {h : Nat} {l : List Tr} (g : Gts h l) (h2 : 2 ≤ l.length) (h3 : l.length ≤ 100000) : Gt (h + 1) (.cho l) := ⟨⟨h2, h3, wfs_of fun t ht => (g t ht).1⟩, abs_of fun t ht => (g t ht).2.1, Nat.succ_le_succ (heights_le (g.pos h2) fun t ht => (g t ht).2.2)⟩
theorem Gt.up {h k : Nat} {t : Tr} (g : Gt h t) (e : h ≤ k) : Gt k t := ⟨g.1, g.2.1, Nat.le_trans g.2.2 e⟩
theorem fin3 {k : Int} (h0 : 0 ≤ k) (h1 : k < 3) : ∃ kf : _root_.Fin 3, atI [V.str "many", .str "some", .str "maybe"] k = some (.str (sSgn kf)) := by
  have : k = 0 ∨ k = 1 ∨ k = 2 := by omega
  rcases this with rfl | rfl | rfl
  · exact ⟨0, rfl⟩
  · exact ⟨1, rfl⟩
  · exact ⟨2, rfl⟩
theorem nds_set : ∀ {ts : List Tr} {j : Nat} {t : Tr} {k : _root_.Fin 3}, ts[j]? = some t → nds (ts.set j (.sgn k t)) = nds ts + 1
  | [], _, _, _, e => nomatch e
  | u :: l, 0, t, k, e => by
    injection e with e
    subst e
    show nd u + 1 + nds l = nd u + nds l + 1
    omega
  | u :: l, j + 1, t, k, e => by
    show nd u + nds (l.set j (.sgn k t)) = nd u + nds l + 1
    rw [nds_set (ts := l) (j := j) e]
    omega
/-- the pool has turned, the rest stands -/
def Mov (H H' : Hp) (p : Addr) (m : Nat) : Prop := BoxC H' p m ∧ ∀ c o, c ≠ p → H c = some o → H' c = some o
def spTree : Sp := fun vs H Q _ => ∃ (p la na : Addr) (m0 : Nat), vs = [.ref p, .ref la, .ref na] ∧ BoxC H p m0 ∧ m0 ≤ 50000 ∧ H la = some (.lst [.str "a", .str "b"]) ∧ H na = some (.lst [.str "x"]) ∧
  ∀ t v H', Gt 21 t → nd t ≤ 60 → Mov H H' p (m0 + 200) → TrAt H' v t → Q v H'
section
variable {P : Program} {w : World} {K : PySem.W.Frag} {mg : Str → Option Value} {base : Heap} {aS aL C_L f_L C_U f_U : Addr} {es : Array DictEntry} {n : Nat}
abbrev s_law_tree : Stmt := top 48
theorem sc_law_tree : FnScope ["_law_box_here", "_law_letters", "_law_names", "_law_some", "_law_turn", "_law_way", "_law_at", "_law_size"] ["_law_box_here", "_law_letters", "_law_names"] (defScope s_law_tree) := ⟨rfl, rfl, rfl, by decide +kernel, rfl, by decide +kernel, by decide +kernel⟩
theorem ok_tree {f f1 : Addr} {fd fd1 : FuncData} (F : Fun K "_law_tree" "_law_tree" s_law_tree f fd) (T : Txt w K mg base aS aL es n) (zr : mg "range" = none)
    (D__law_take : Df P w K mg base CX0 1 "_law_take" f1 fd1 ["_law_box_here", "_law_many_here"] spTakeC) : FnG P w K mg base CX0 2 f fd ["_law_box_here", "_law_letters", "_law_names"] spTree := by
  refine okG F sc_law_tree (fun vs H Q E h => ?_) (fun cdv A outer s H vs Q E hc hr h => ?_)
  · obtain ⟨p, la, na, m0, rfl, _⟩ := h
    rfl
  obtain ⟨p, la, na, m0, rfl, hb, hm0, hla, hna, q⟩ := h
  refine ⟨_, (pss_cons (ps_set (i := 3) sc_law_tree.nd rfl (Or.inl rfl) (pe_lst pa_nil))
 (pss_cons (ps_for (passes_of rfl) rfl (pi_range1 rfl zr (pa_cons (pe_op op_add pe_int (pe_d D__law_take hc (hr.mono (by omega)) (by rfl) (fun _ => passN) (pa_cons (pv 0) (pa_cons pe_int pa_nil)))) pa_nil)) (pg_name (i := 4) sc_law_tree.nd rfl (Or.inl rfl))
  (pss_cons (ps_set (i := 5) sc_law_tree.nd rfl (Or.inl rfl) (pe_d D__law_take hc (hr.mono (by omega)) (by rfl) (fun _ => passN) (pa_cons (pv 0) (pa_cons pe_int pa_nil))))
 (pss_one (ps_if (pt_cmpR op_eq (pv 5) pe_int (nomark _))
  (pss_one (ps_expr (pe_bm PySem.F.plainAttrs_list PySem.F.slot_list_append PySem.F.type_list_append mt_append (pv 3) (pa_cons (pe_ix ix_list (pe_lst (pa_cons (pe_tup (pa_cons pe_str pa_nil)) (pa_cons (pe_tup (pa_cons pe_str pa_nil)) pa_nil))) (pe_d D__law_take hc (hr.mono (by omega)) (by rfl) (fun _ => passN) (pa_cons (pv 0) (pa_cons pe_int pa_nil))) (fun _ _ => rfl)) pa_nil)))) (pss_one (ps_if (PW.pt (pw_and (pt_cmpR op_lt (pv 5) pe_int (nomark _)) (pw_and1 (pt_cmpR (op_neD hr.units) (pv 2) (pe_lst pa_nil) (nomark _)))))
  (pss_one (ps_expr (pe_bm PySem.F.plainAttrs_list PySem.F.slot_list_append PySem.F.type_list_append mt_append (pv 3) (pa_cons (pe_tup (pa_cons pe_str (pa_cons (pe_ix ix_list (pv 2) (pe_d D__law_take hc (hr.mono (by omega)) (by rfl) (fun _ => passN) (pa_cons (pv 0) (pa_cons (pe_callB call_len_seq (by rfl) T.z_len (by decide +kernel) (pa_cons (pv 2) pa_nil)) pa_nil))) (fun _ _ => rfl)) pa_nil))) pa_nil)))) (pss_one (ps_expr (pe_bm PySem.F.plainAttrs_list PySem.F.slot_list_append PySem.F.type_list_append mt_append (pv 3) (pa_cons (pe_tup (pa_cons pe_str (pa_cons (pe_ix ix_list (pv 1) (pe_d D__law_take hc (hr.mono (by omega)) (by rfl) (fun _ => passN) (pa_cons (pv 0) (pa_cons (pe_callB call_len_seq (by rfl) T.z_len (by decide +kernel) (pa_cons (pv 1) pa_nil)) pa_nil))) (fun _ _ => rfl)) pa_nil))) pa_nil))))))))))
 (pss_cons (ps_for (passes_of rfl) rfl (pi_range1 rfl zr (pa_cons (pe_d D__law_take hc (hr.mono (by omega)) (by rfl) (fun _ => passN) (pa_cons (pv 0) (pa_cons pe_int pa_nil))) pa_nil)) (pg_name (i := 4) sc_law_tree.nd rfl (Or.inl rfl))
  (pss_cons (ps_set (i := 6) sc_law_tree.nd rfl (Or.inl rfl) (pe_d D__law_take hc (hr.mono (by omega)) (by rfl) (fun _ => passN) (pa_cons (pv 0) (pa_cons (pe_callB call_len_seq (by rfl) T.z_len (by decide +kernel) (pa_cons (pv 3) pa_nil)) pa_nil))))
 (pss_cons (ps_set (i := 7) sc_law_tree.nd rfl (Or.inl rfl) (pe_op op_add pe_int (pe_d D__law_take hc (hr.mono (by omega)) (by rfl) (fun _ => passN) (pa_cons (pv 0) (pa_cons pe_int pa_nil)))))
 (pss_one (ps_if (PW.pt (pw_or (pt_cmpR op_eq (pe_d D__law_take hc (hr.mono (by omega)) (by rfl) (fun _ => passN) (pa_cons (pv 0) (pa_cons pe_int pa_nil))) pe_int (nomark _)) (pw_or1 (pt_cmpR op_lt (pe_callB call_len_seq (by rfl) T.z_len (by decide +kernel) (pa_cons (pv 3) pa_nil)) (pe_op op_add (pv 6) (pv 7)) (nomark _)))))
  (pss_one (ps_asg (pe_tup (pa_cons (pe_ix ix_list (pe_lst (pa_cons pe_str (pa_cons pe_str (pa_cons pe_str pa_nil)))) (pe_d D__law_take hc (hr.mono (by omega)) (by rfl) (fun _ => passN) (pa_cons (pv 0) (pa_cons pe_int pa_nil))) (fun _ _ => rfl)) (pa_cons (pe_ix ix_list (pv 3) (pv 6) (fun _ _ => rfl)) pa_nil))) (pg_sub (pv 3) (pv 6) set_list))) (pss_one (ps_set (i := 3) sc_law_tree.nd rfl (Or.inl rfl) (pe_op op_cat (pe_op op_cat (pe_slice sl_list (pv 3) po_none (po_some (pv 6))) (pe_lst (pa_cons (pe_tup (pa_cons (pe_ix ix_list (pe_lst (pa_cons pe_str (pa_cons pe_str pa_nil))) (pe_d D__law_take hc (hr.mono (by omega)) (by rfl) (fun _ => passN) (pa_cons (pv 0) (pa_cons pe_int pa_nil))) (fun _ _ => rfl)) (pa_cons (pe_slice sl_list (pv 3) (po_some (pv 6)) (po_some (pe_op op_add (pv 6) (pv 7)))) pa_nil))) pa_nil))) (pe_slice sl_list (pv 3) (po_some (pe_op op_add (pv 6) (pv 7))) po_none)))))))))
 (pss_one (ps_ret (pe_ifExp (pt_cmpR op_eq (pe_callB call_len_seq (by rfl) T.z_len (by decide +kernel) (pa_cons (pv 3) pa_nil)) pe_int (nomark _)) (pe_ix ix_list (pv 3) pe_int (fun _ _ => rfl)) (pe_tup (pa_cons (pe_ix ix_list (pe_lst (pa_cons pe_str (pa_cons pe_str pa_nil))) (pe_d D__law_take hc (hr.mono (by omega)) (by rfl) (fun _ => passN) (pa_cons (pv 0) (pa_cons pe_int pa_nil))) (fun _ _ => rfl)) (pa_cons (pv 3) pa_nil))))))))), ?_⟩
  have z16 := sizeLine_eq
  have pla : la ≠ p := fun z => by obtain ⟨a, b, c, e, _⟩ := hb; rw [z, e] at hla; exact nomatch hla
  have pna : na ≠ p := fun z => by obtain ⟨a, b, c, e, _⟩ := hb; rw [z, e] at hna; exact nomatch hna
  refine ⟨by show 0 ≤ sizeLine; omega, fun S hS => ?_⟩
  have pS : S ≠ p := fun z => by obtain ⟨a, b, c, e, _⟩ := hb; rw [z, e] at hS; exact nomatch hS
  have I0 : TI H (upd H S (.lst [])) p S m0 [] := ⟨fun _ => none, [], upd_same, .nil, (fun _ _ e => nomatch e), rfl, rfl, hS, pS, (by
    obtain ⟨a, b, c, e, r⟩ := hb
    exact ⟨a, b, c, by rw [upd_ne pS.symm]; exact e, r⟩), fun c o n e => by rw [upd_ne (ne_of_none e hS)]; exact e⟩
  refine ⟨_, rfl, p, 7, m0, rfl, I0.box, by omega, by decide, by decide, fun d H1 d0 d1 t1 => ?_⟩
  refine ⟨_, _, rfl, rfl, _, rfl, by omega, by omega, ?_⟩
  have I1 := I0.turn t1
  refine for_range (fun i σ H' => ∃ o4 o5 m ts, σ = [some (.ref p), some (.ref la), some (.ref na), some (.ref S), o4, o5, none, none] ∧ m ≤ m0 + 1 + 2 * i ∧ TI H H' p S m ts ∧ Gts 1 ts ∧ ts.length = i ∧ nds ts = i)
    ⟨none, none, m0 + 1, [], rfl, by omega, I1, (fun _ z => nomatch z), rfl, rfl⟩ ?_ ?_
  · rintro i _ H2 hi ⟨o4, o5, m, ts, rfl, hm, I, gts, lts, nts⟩
    have i7 : i < 7 := by omega
    refine ⟨_, rfl, p, 10, m, rfl, I.box, by omega, by decide, by decide, fun y H3 y0 y1 t3 => ?_⟩
    have I3 := I.turn t3
    have done : ∀ (H4 : Hp) (v : V) (t : Tr) (k : Nat), Leaf H H4 p S k ts v t → Gt 1 t → nd t = 1 → k ≤ m + 2 → ∃ vs, H4 S = some (.lst vs) ∧ vs.length + 1 ≤ sizeLine ∧ ∃ o4 o5 m' ts', (([some (.ref p), some (.ref la), some (.ref na), some (.ref S), some (.int (0 + (i : Nat))), some (.int y), none, none] : St) = [some (.ref p), some (.ref la), some (.ref na), some (.ref S), o4, o5, none, none]) ∧ m' ≤ m0 + 1 + 2 * (i + 1) ∧ TI H (upd H4 S (.lst (vs ++ [v]))) p S m' ts' ∧ Gts 1 ts' ∧ ts'.length = i + 1 ∧ nds ts' = i + 1 := by
      intro H4 v t k L g1 g2 g3
      obtain ⟨vs, b1, b2, b3⟩ := L.app
      refine ⟨vs, b1, by omega, _, _, k, ts ++ [t], rfl, by omega, b3, fun u hu => ?_, by rw [List.length_append, lts]; rfl, ?_⟩
      · rcases List.mem_append.mp hu with hu | hu
        · exact gts u hu
        · rw [List.mem_singleton.mp hu]
          exact g1
      · rw [nds_app, nts]
        show i + (nd t + 0) = i + 1
        omega
    refine ⟨_, rfl, rfl, _, rfl, ?_⟩
    obtain ⟨us, hus, _⟩ := I3.ex
    refine iteB (fun c => ?_) (fun c => ?_)
    · refine ⟨_, rfl, .inl ⟨rfl, _, SqL.of hus⟩, by show 1 ≤ sizeLine; omega, fun q1 hq1 => ⟨by show 1 ≤ sizeLine; omega, fun q2 hq2 => ⟨by show 2 ≤ sizeLine; omega, fun l hl => ?_⟩⟩⟩
      have L1 := I3.tup (t := .none) hq1 (fun G e => .none e)
      have L2 := L1.new (o := .tup [.str sEmpty]) hq2
      have I4 := (I3.new (o := .tup [.str sNone]) hq1).tup (t := .empty) hq2 (fun G e => .empty e)
      have L3 := L2.new (o := .lst [.ref q1, .ref q2]) hl
      have I5 := I4.new (o := .lst [.ref q1, .ref q2]) hl
      refine ⟨_, rfl, p, 2, m + 1, rfl, L3.box, by omega, by decide, by decide, fun k H5 k0 k1 t5 => ?_⟩
      have L6 := L3.turn t5
      have hl5 : H5 l = some (.lst [.ref q1, .ref q2]) := by
        have lp : l ≠ p := fun z => by obtain ⟨a, b, c, e, _⟩ := L2.box; rw [z, e] at hl; exact nomatch hl
        rw [t5.2 l lp]
        exact upd_same
      have I6 := I5.turn t5
      have k2 : k = 0 ∨ k = 1 := by omega
      rcases k2 with rfl | rfl
      · obtain ⟨vs, a1, a2, a3⟩ := done _ _ _ _ L6 ⟨trivial, trivial, Nat.le_refl _⟩ rfl (by omega)
        exact ⟨l, _, 0, _, rfl, rfl, SqL.of hl5, atI_nat (j := 0) rfl, S, _, _, rfl, rfl, a1, a2, a3⟩
      · obtain ⟨vs, a1, a2, a3⟩ := done _ _ _ _ I6 ⟨trivial, trivial, Nat.le_refl _⟩ rfl (by omega)
        exact ⟨l, _, 1, _, rfl, rfl, SqL.of hl5, atI_nat (j := 1) rfl, S, _, _, rfl, rfl, a1, a2, a3⟩
    -- a letter
    have hla3 := I3.old pla hla
    have hna3 := I3.old pna hna
    refine ⟨_, rfl, _, _, rfl, rfl, _, rfl, ?_⟩
    refine iteB (fun c1 => ?_) (fun c1 => ?_)
    · refine ⟨_, rfl, by show 0 ≤ sizeLine; omega, fun e he => ?_⟩
      have I4 := I3.new (o := .lst []) he
      have hna4 := ne_keep (u := .lst []) he hna3
      refine ⟨.list [.str "x"], .list [], .lst (SqL.of hna4) (.cons (.str _) .nil), .lst (SqL.of upd_same) .nil, by decide +kernel, by decide +kernel, _, rfl, ?_⟩
      have ne : (!PyData.eqv (.list [.str "x"]) (.list [])) = true := by decide +kernel
      rw [ne]
      refine iteT ?_
      obtain ⟨us4, hus4, _⟩ := I4.ex
      refine ⟨_, rfl, .inl ⟨rfl, _, SqL.of hus4⟩, _, rfl, _, rfl, _, rfl, na, _, rfl, .inl (SqL.of hna4), ?_⟩
      refine ⟨p, _, m + 1, rfl, I4.box, by omega, by show (0 : Int) < 1; decide, by show (1 : Int) < 1000000; decide, fun k H5 k0 k1 t5 => ?_⟩
      have k2 : k = 0 := by
        have : k < 1 := k1
        omega
      subst k2
      have I5 := I4.turn t5
      have hna5 : H5 na = some (.lst [.str "x"]) := by rw [t5.2 na pna]; exact hna4
      refine ⟨na, _, 0, _, rfl, rfl, SqL.of hna5, atI_nat (j := 0) rfl, by show 2 ≤ sizeLine; omega, fun q1 hq1 => ?_⟩
      have L6 := I5.tup (t := .name "x") hq1 (fun G e => .name e)
      obtain ⟨vs, a1, a2, a3⟩ := done _ _ _ _ L6 ⟨⟨⟨by decide +kernel, by decide +kernel⟩, by decide +kernel, by decide +kernel⟩, trivial, Nat.le_refl _⟩ rfl (by omega)
      exact ⟨S, _, _, rfl, rfl, a1, a2, a3⟩
    · obtain ⟨us3, hus3, _⟩ := I3.ex
      refine ⟨_, rfl, .inl ⟨rfl, _, SqL.of hus3⟩, _, rfl, _, rfl, _, rfl, la, _, rfl, .inl (SqL.of hla3), ?_⟩
      refine ⟨p, _, m + 1, rfl, I3.box, by omega, by show (0 : Int) < 2; decide, by show (2 : Int) < 1000000; decide, fun k H5 k0 k1 t5 => ?_⟩
      have I5 := I3.turn t5
      have hla5 : H5 la = some (.lst [.str "a", .str "b"]) := by rw [t5.2 la pla]; exact hla3
      have k2 : k = 0 ∨ k = 1 := by
        have : k < 2 := k1
        omega
      rcases k2 with rfl | rfl
      · refine ⟨la, _, 0, _, rfl, rfl, SqL.of hla5, atI_nat (j := 0) rfl, by show 2 ≤ sizeLine; omega, fun q1 hq1 => ?_⟩
        have L6 := I5.tup (t := .letter 97) hq1 (fun G e => .letter e)
        obtain ⟨vs, a1, a2, a3⟩ := done _ _ _ _ L6 ⟨by show low 97 = true; decide, trivial, Nat.le_refl _⟩ rfl (by omega)
        exact ⟨S, _, _, rfl, rfl, a1, a2, a3⟩
      · refine ⟨la, _, 1, _, rfl, rfl, SqL.of hla5, atI_nat (j := 1) rfl, by show 2 ≤ sizeLine; omega, fun q1 hq1 => ?_⟩
        have L6 := I5.tup (t := .letter 98) hq1 (fun G e => .letter e)
        obtain ⟨vs, a1, a2, a3⟩ := done _ _ _ _ L6 ⟨by show low 98 = true; decide, trivial, Nat.le_refl _⟩ rfl (by omega)
        exact ⟨S, _, _, rfl, rfl, a1, a2, a3⟩
  rintro _ H2 ⟨o4, o5, m, ts, rfl, hm, I2, gts0, lts, nts⟩
  have d7 : (1 + d).toNat ≤ 7 ∧ 1 ≤ (1 + d).toNat := by omega
  generalize (1 + d).toNat = N at d7 hm lts nts
  refine ⟨_, rfl, p, 12, m, rfl, I2.box, by omega, by decide, by decide, fun d3 H3 e0 e1 t3 => ⟨_, rfl, by omega, by omega, ?_⟩⟩
  refine for_range (fun i σ H' => ∃ S o4 o5 o6 o7 G vs m ts, σ = [some (.ref p), some (.ref la), some (.ref na), some (.ref S), o4, o5, o6, o7] ∧ m ≤ m0 + 16 + 6 * i ∧ TV H H' p S m G vs ts ∧ Gts (1 + i) ts ∧ 1 ≤ ts.length ∧ ts.length ≤ 7 ∧ nds ts ≤ 7 + i) ?_ ?_ ?_
  · obtain ⟨G, vs, b⟩ := I2.turn t3
    exact ⟨S, o4, o5, none, none, G, vs, m + 1, ts, rfl, by omega, b, gts0, by omega, by omega, by omega⟩
  · rintro i _ H4 hi ⟨S, o4, o5, o6, o7, G, vs, m, ts, rfl, hm, I, gts, l1, l7, hnd⟩
    have i12 : i < 12 := by omega
    have lvs := I.2.1.length
    refine ⟨_, rfl, _, rfl, S, _, rfl, .inl (SqL.of I.1), p, _, m, rfl, I.box, by omega, by omega, by omega, fun at0 H5 a0 a1 t5 => ?_⟩
    have I5 := I.turn t5
    obtain ⟨at', rfl⟩ := Int.eq_ofNat_of_zero_le a0
    have hlt : at' < vs.length := by omega
    refine ⟨_, rfl, p, 2, m + 1, rfl, I5.box, by omega, by decide, by decide, fun z H6 z0 z1 t6 => ⟨_, _, rfl, rfl, ?_⟩⟩
    have I6 := I5.turn t6
    obtain ⟨zz, rfl⟩ := Int.eq_ofNat_of_zero_le z0
    refine ⟨_, rfl, p, 2, m + 2, rfl, I6.box, by omega, by decide, by decide, fun k H7 k0 k1 t7 => ⟨rfl, _, rfl, ?_⟩⟩
    have I7 := I6.turn t7
    obtain ⟨v0, hat⟩ : ∃ v0, vs[at']? = some v0 := ⟨_, List.getElem?_eq_getElem hlt⟩
    obtain ⟨t0, htat, _⟩ := I.2.1.at hat
    refine iteB (fun c => ?_) (fun c => ?_)
    · refine iteT ?_
      refine ⟨by show 3 ≤ sizeLine; omega, fun l hl => ?_⟩
      have J1 := I7.new (o := .lst [.str "many", .str "some", .str "maybe"]) hl
      have lp : l ≠ p := fun z => by obtain ⟨a, b, c, e, _⟩ := I7.box; rw [z, e] at hl; exact nomatch hl
      refine ⟨_, rfl, p, 3, m + 3, rfl, J1.box, by omega, by decide, by decide, fun kk H8 kk0 kk1 t8 => ?_⟩
      have J2 := J1.turn t8
      have hl8 : H8 l = some (.lst [.str "many", .str "some", .str "maybe"]) := by rw [t8.2 l lp]; exact upd_same
      obtain ⟨kf, hkf⟩ := fin3 kk0 kk1
      refine ⟨l, _, _, _, rfl, rfl, SqL.of hl8, hkf, _, rfl, _, rfl, S, _, _, _, rfl, rfl, SqL.of J2.1, atI_nat (j := at') hat, by show 2 ≤ sizeLine; omega, fun q1 hq1 => ?_⟩
      obtain ⟨b1, b2⟩ := J2.wrap hq1 kf hat htat
      refine ⟨_, rfl, _, rfl, S, _, _, _, rfl, rfl, b1, ixN_nat hlt, S, _, _, _, _, _, _, m + 4, _, rfl, by omega, b2, fun u hu => ?_, ?_, ?_, ?_⟩
      · rcases List.mem_or_eq_of_mem_set hu with hu | rfl
        · exact (gts u hu).up (by omega)
        · obtain ⟨g1, g2, g3⟩ := gts t0 (List.mem_of_getElem? htat)
          exact ⟨g1, g2, by show t0.height + 1 ≤ _; omega⟩
      · rw [List.length_set]; exact l1
      · rw [List.length_set]; exact l7
      · rw [nds_set htat]
        omega
    · refine ⟨_, rfl, S, _, rfl, .inl (SqL.of I7.1), _, rfl, _, rfl, _, _, rfl, rfl, _, _, rfl, rfl, _, rfl, ?_⟩
      refine iteB (fun c1 => ?_) (fun c1 => ?_)
      · refine ⟨by show 3 ≤ sizeLine; omega, fun l hl => ?_⟩
        have J1 := I7.new (o := .lst [.str "many", .str "some", .str "maybe"]) hl
        have lp : l ≠ p := fun z => by obtain ⟨a, b, c, e, _⟩ := I7.box; rw [z, e] at hl; exact nomatch hl
        refine ⟨_, rfl, p, 3, m + 3, rfl, J1.box, by omega, by decide, by decide, fun kk H8 kk0 kk1 t8 => ?_⟩
        have J2 := J1.turn t8
        have hl8 : H8 l = some (.lst [.str "many", .str "some", .str "maybe"]) := by rw [t8.2 l lp]; exact upd_same
        obtain ⟨kf, hkf⟩ := fin3 kk0 kk1
        refine ⟨l, _, _, _, rfl, rfl, SqL.of hl8, hkf, _, rfl, _, rfl, S, _, _, _, rfl, rfl, SqL.of J2.1, atI_nat (j := at') hat, by show 2 ≤ sizeLine; omega, fun q1 hq1 => ?_⟩
        obtain ⟨b1, b2⟩ := J2.wrap hq1 kf hat htat
        refine ⟨_, rfl, _, rfl, S, _, _, _, rfl, rfl, b1, ixN_nat hlt, S, _, _, _, _, _, _, m + 4, _, rfl, by omega, b2, fun u hu => ?_, ?_, ?_, ?_⟩
        · rcases List.mem_or_eq_of_mem_set hu with hu | rfl
          · exact (gts u hu).up (by omega)
          · obtain ⟨g1, g2, g3⟩ := gts t0 (List.mem_of_getElem? htat)
            exact ⟨g1, g2, by show t0.height + 1 ≤ _; omega⟩
        · rw [List.length_set]; exact l1
        · rw [List.length_set]; exact l7
        · rw [nds_set htat]
          omega
      · have c2 := of_decide_eq_false c1
        have fits : at' + (2 + zz) ≤ vs.length := by omega
        refine ⟨_, rfl, _, rfl, _, rfl, S, _, rfl, SqL.of I7.1, fun qA hqA => ?_⟩
        have J1 := I7.new (o := .lst (cutV vs none (some (at' : Int)))) hqA
        refine ⟨by show 2 ≤ sizeLine; omega, fun l hl => ?_⟩
        have J2 := J1.new (o := .lst [.str "sequence", .str "choice"]) hl
        have lp : l ≠ p := fun z => by obtain ⟨a, b, c, e, _⟩ := J1.box; rw [z, e] at hl; exact nomatch hl
        refine ⟨_, rfl, p, 2, m + 3, rfl, J2.box, by omega, by decide, by decide, fun kk H8 kk0 kk1 t8 => ?_⟩
        have J3 := J2.turn t8
        have hl8 : H8 l = some (.lst [.str "sequence", .str "choice"]) := by rw [t8.2 l lp]; exact upd_same
        have Ap : qA ≠ p := fun z => by obtain ⟨a, b, c, e, _⟩ := I7.box; rw [z, e] at hqA; exact nomatch hqA
        have hA8 : H8 qA = some (.lst (cutV vs none (some (at' : Int)))) := by rw [t8.2 qA Ap]; exact ne_keep hl upd_same
        obtain ⟨kd, hkd, hkk⟩ : ∃ kd : Str, (kd = sSeq ∨ kd = sCho) ∧ atI [V.str "sequence", V.str "choice"] kk = some (.str kd) := by
          have : kk = 0 ∨ kk = 1 := by omega
          rcases this with rfl | rfl
          · exact ⟨sSeq, .inl rfl, rfl⟩
          · exact ⟨sCho, .inr rfl, rfl⟩
        refine ⟨l, _, _, _, rfl, rfl, SqL.of hl8, hkk, ?_⟩
        refine ⟨_, rfl, _, rfl, _, rfl, _, rfl, _, rfl, _, _, rfl, rfl, _, rfl, S, _, rfl, SqL.of J3.1, fun qB hqB => ⟨by show 2 ≤ sizeLine; omega, fun qT hqT => ⟨by show 1 ≤ sizeLine; omega, fun qL hqL => ?_⟩⟩⟩
        have cB : cutV vs (some (at' : Int)) (some ((at' : Int) + (2 + (zz : Int)))) = (vs.drop at').take (2 + zz) := by
          have := Gd.cut_mid (xs := vs) (i := at') (k := 2 + zz) fits
          rw [← this]
          congr 2
        have hA9 := ne_keep (u := .lst (cutV vs (some (at' : Int)) (some ((at' : Int) + (2 + (zz : Int)))))) hqB hA8
        have hA10 := ne_keep (u := .tup [.str kd, .ref qB]) hqT hA9
        have hA11 := ne_keep (u := .lst [.ref qT]) hqL hA10
        obtain ⟨J4, up, gT, gB', gBt⟩ := J3.pair (x := kd) hqB hqT (Bt := (ts.drop at').take (2 + zz)) (by rw [cB]; exact trs_take _ (trs_drop _ J3.2.1))
        have J5 := J4.new (o := .lst [.ref qT]) hqL
        refine ⟨qA, qL, _, _, rfl, rfl, hA11, upd_same, ?_, fun qC hqC => ?_⟩
        · rw [Gd.cut_to (by omega), List.length_take]
          show _ + 1 ≤ _
          omega
        have J6 := J5.new (o := .lst (cutV vs none (some (at' : Int)) ++ [.ref qT])) hqC
        refine ⟨_, rfl, _, rfl, _, rfl, _, _, rfl, rfl, _, rfl, S, _, rfl, SqL.of J6.1, fun qD hqD => ?_⟩
        have cD : cutV vs (some ((at' : Int) + (2 + (zz : Int)))) none = vs.drop (at' + (2 + zz)) := by
          have := Gd.cut_from (xs := vs) (i := at' + (2 + zz)) fits
          rw [← this]
          congr 2
        have J7 := J6.new (o := .lst (cutV vs (some ((at' : Int) + (2 + (zz : Int)))) none)) hqD
        refine ⟨qC, qD, _, _, rfl, rfl, ne_keep hqD upd_same, upd_same, ?_, fun S' hS' => ?_⟩
        · rw [Gd.cut_to (by omega), cD, List.length_append, List.length_take, List.length_drop]
          show _ + 1 + _ ≤ _
          omega
        have cA := Gd.cut_to (xs := vs) (i := at') (by omega)
        rw [cA, cD] at J7
        rw [cA, cD] at hS' ⊢
        have lts : vs.length = ts.length := lvs
        have lB : ((ts.drop at').take (2 + zz)).length = 2 + zz := by rw [List.length_take, List.length_drop]; omega
        have gB : Gts (1 + i) ((ts.drop at').take (2 + zz)) := fun u hu => gts u (List.mem_of_mem_drop (List.mem_of_mem_take hu))
        obtain ⟨t', g1, g2, g3⟩ : ∃ t' : Tr, Gt (1 + i + 1) t' ∧ nd t' = nds ((ts.drop at').take (2 + zz)) + 1 ∧ TrAt (upd (upd G qB (.lst (cutV vs (some (at' : Int)) (some ((at' : Int) + (2 + (zz : Int))))))) qT (.tup [.str kd, .ref qB])) (.ref qT) t' := by
          rcases hkd with rfl | rfl
          · exact ⟨.seq _, gB.seq (by omega) (by omega), rfl, .seq gT gB' gBt⟩
          · exact ⟨.cho _, gB.cho (by omega) (by omega), rfl, .cho gT gB' gBt⟩
        refine ⟨S', _, _, _, _, _, _, m + 4, ts.take at' ++ [t'] ++ ts.drop (at' + (2 + zz)), rfl, by omega, J7.move hS' (trs_append (trs_append ((trs_take _ I7.2.1).same up) (.cons g3 .nil)) ((trs_drop _ I7.2.1).same up)), ?_, ?_, ?_, ?_⟩
        · intro u hu
          rcases List.mem_append.mp hu with hu | hu
          · rcases List.mem_append.mp hu with hu | hu
            · exact (gts u (List.mem_of_mem_take hu)).up (by omega)
            · rw [List.mem_singleton.mp hu]
              exact g1.up (by omega)
          · exact (gts u (List.mem_of_mem_drop hu)).up (by omega)
        · rw [List.length_append, List.length_append]
          show 1 ≤ _ + 1 + _
          omega
        · rw [List.length_append, List.length_append, List.length_take, List.length_drop]
          show _ + 1 + _ ≤ 7
          omega
        · have e := nds_parts ts at' (2 + zz)
          rw [nds_app, nds_app]
          show _ + (nd t' + 0) + _ ≤ _
          omega
  · rintro _ H4 ⟨S, o4, o5, o6, o7, G, vs, m, ts, rfl, hm, I, gts, l1, l7, hnd⟩
    have i12 : d3.toNat < 12 := by omega
    have lvs := I.2.1.length
    refine ⟨_, rfl, S, _, rfl, .inl (SqL.of I.1), rfl, _, rfl, ?_⟩
    refine iteB (fun c => ?_) (fun c => ?_)
    · have c1 := of_decide_eq_true c
      have one : vs.length = 1 := by
        injection c1 with c1
        omega
      obtain ⟨v0, hv0⟩ : ∃ v0, vs[0]? = some v0 := ⟨_, List.getElem?_eq_getElem (by omega)⟩
      obtain ⟨t0, ht0, hvt⟩ := I.2.1.at hv0
      have g0 := gts t0 (List.mem_of_getElem? ht0)
      refine ⟨_, rfl, S, _, _, _, rfl, rfl, SqL.of I.1, atI_nat (j := 0) hv0, q t0 v0 H4 (g0.up (by omega)) ?_ ⟨I.box.up (by omega), I.2.2.2.2.2.2.2.2⟩ (hvt.same I.2.2.1)⟩
      have h1 := nd_le ht0
      omega
    · have c1 := of_decide_eq_false c
      have two : 2 ≤ vs.length := by
        rcases Nat.lt_or_ge vs.length 2 with h | h
        · exfalso
          exact c1 (by rw [show vs.length = 1 by omega]; rfl)
        · exact h
      refine ⟨by show 2 ≤ sizeLine; omega, fun l hl => ?_⟩
      have J2 := I.new (o := .lst [.str "sequence", .str "choice"]) hl
      have lp : l ≠ p := fun z => by obtain ⟨a, b, c, e, _⟩ := I.box; rw [z, e] at hl; exact nomatch hl
      refine ⟨_, rfl, p, 2, m, rfl, J2.box, by omega, by decide, by decide, fun kk H8 kk0 kk1 t8 => ?_⟩
      have J3 := J2.turn t8
      have hl8 : H8 l = some (.lst [.str "sequence", .str "choice"]) := by rw [t8.2 l lp]; exact upd_same
      obtain ⟨kd, hkd, hkk⟩ : ∃ kd : Str, (kd = sSeq ∨ kd = sCho) ∧ atI [V.str "sequence", V.str "choice"] kk = some (.str kd) := by
        have : kk = 0 ∨ kk = 1 := by omega
        rcases this with rfl | rfl
        · exact ⟨sSeq, .inl rfl, rfl⟩
        · exact ⟨sCho, .inr rfl, rfl⟩
      refine ⟨l, _, _, _, rfl, rfl, SqL.of hl8, hkk, _, rfl, by show 2 ≤ sizeLine; omega, fun qT hqT => ?_⟩
      have k1 : (upd H8 qT (.tup [.str kd, .ref S])) qT = some (.tup [.str kd, .ref S]) := upd_same
      have k2 : (upd H8 qT (.tup [.str kd, .ref S])) S = some (.lst vs) := ne_keep hqT J3.1
      have k3 : TrsAt (upd H8 qT (.tup [.str kd, .ref S])) vs ts := (J3.2.1.same J3.2.2.1).same fun c o e => ne_keep hqT e
      have k4 : Mov H (upd H8 qT (.tup [.str kd, .ref S])) p (m0 + 200) := ⟨((J3.new (o := .tup [.str kd, .ref S]) hqT).box).up (by omega), fun c o n e => ne_keep hqT (J3.2.2.2.2.2.2.2.2 c o n e)⟩
      rcases hkd with rfl | rfl
      · exact q (.seq ts) _ _ ((gts.seq (by omega) (by omega)).up (by omega)) (by show nds ts + 1 ≤ 60; omega) k4 (.seq k1 k2 k3)
      · exact q (.cho ts) _ _ ((gts.cho (by omega) (by omega)).up (by omega)) (by show nds ts + 1 ≤ 60; omega) k4 (.cho k1 k2 k3)
end
end KT

/-! zip of any number of lists and tuples of one length -/
namespace Zn
open PySem
open PySem.Sem (wp)
/-- an iterator of a list (true) or of a tuple (false) -/
def ItK (b : Bool) (h : Heap) (i l : Addr) (k : Nat) : Prop := if b then h.IsListIter i l k else h.IsTupleIter i l k
/-- a list or a tuple -/
def SqK (b : Bool) (h : Heap) (l : Addr) (xs : Array Value) : Prop := if b then h.IsList l xs else h.IsTuple l xs
theorem ItK.at {b : Bool} {h h' : Heap} {i l : Addr} {k : Nat} (x : ItK b h i l k) (e : ∀ o, h.get? i = some o → h'.get? i = some o) : ItK b h' i l k := by
  cases b
  · exact Heap.IsTupleIter.at x e
  · exact Heap.IsListIter.at x e
theorem SqK.at {b : Bool} {h h' : Heap} {l : Addr} {xs : Array Value} (x : SqK b h l xs) (e : ∀ o, h.get? l = some o → h'.get? l = some o) : SqK b h' l xs := by
  cases b
  · obtain ⟨o, ho, r⟩ := (x : h.IsTuple l xs)
    exact (⟨o, e _ ho, r⟩ : h'.IsTuple l xs)
  · exact Heap.IsList.at x e
theorem ItK.obj {b : Bool} {h : Heap} {i l : Addr} {k : Nat} (x : ItK b h i l k) : ∃ o, h.get? i = some o ∧ (o.cls = .type "list_iterator" ∨ o.cls = .type "tuple_iterator") ∧ ∀ v, o.data ≠ .cell v := by
  cases b
  · obtain ⟨o, ho, hc, hd⟩ := (x : h.IsTupleIter i l k)
    exact ⟨o, ho, .inr hc, fun v q => by rw [hd] at q; cases q⟩
  · obtain ⟨o, ho, hc, hd⟩ := (x : h.IsListIter i l k)
    exact ⟨o, ho, .inl hc, fun v q => by rw [hd] at q; cases q⟩
theorem SqK.obj {b : Bool} {h : Heap} {l : Addr} {xs : Array Value} (x : SqK b h l xs) : ∃ o, h.get? l = some o ∧ (o.cls = .type "list" ∨ o.cls = .type "tuple") := by
  cases b
  · obtain ⟨o, ho, hc, _⟩ := (x : h.IsTuple l xs)
    exact ⟨o, ho, .inr hc⟩
  · obtain ⟨o, ho, hc, _⟩ := (x : h.IsList l xs)
    exact ⟨o, ho, .inl hc⟩
section
variable {prog : Program} {w : World} {A : Around} {E : Value → Shared → Prop} {s : Shared}
theorem next_item {b : Bool} {it l : Addr} {k : Nat} {xs : Array Value} {x : Value} {Q : Value → Shared → Prop} (hit : ItK b s.heap it l k) (hl : SqK b s.heap l xs) (hx : xs[k]? = some x)
    (hQ : ∀ h', ItK b h' it l (k + 1) → Heap.SameBut it s.heap h' → Q x { s with heap := h' }) : wpAny (model prog w) A (Builtin.SmallTypes.nextOf (.ref it)) Q E s := by
  cases b
  · exact RZ.nextOf_tuple_item hit hl hx hQ
  · exact wpAny_nextOf_list_item hit hl hx hQ
theorem next_end {b : Bool} {it l : Addr} {k : Nat} {xs : Array Value} {Q : Value → Shared → Prop} (hh : A.handled = none) (hit : ItK b s.heap it l k) (hl : SqK b s.heap l xs) (hx : xs[k]? = none)
    (hE : ∀ h' e, Heap.ExtBut it s.heap h' → (∃ o, h'.get? e = some o ∧ o.cls = .type "StopIteration") → E (.ref e) { s with heap := h' }) : wpAny (model prog w) A (Builtin.SmallTypes.nextOf (.ref it)) Q E s := by
  cases b
  · exact RZ.nextOf_tuple_end hh hit hl hx hE
  · exact wpAny_nextOf_list_end hh hit hl hx hE
theorem iter_seq {b : Bool} {l : Addr} {xs : Array Value} {Q : Value → Shared → Prop} (hl : SqK b s.heap l xs)
    (hQ : ∀ h', h'.objs.size = s.heap.objs.size + 1 → (∀ c o, s.heap.get? c = some o → h'.get? c = some o) → ItK b h' s.heap.objs.size l 0 → Q (.ref s.heap.objs.size) { s with heap := h' }) : wpAny (model prog w) A (pyIter (.ref l)) Q E s := by
  cases b
  · exact wpAny_pyIter_tuple hl (hQ _ (Heap.size_push ..) (fun c o e => Heap.get?_push_of_some _ e) (show Heap.IsTupleIter _ _ _ _ from ⟨_, Heap.get?_push_size _ rfl, rfl, rfl⟩))
  · exact wpAny_pyIter_list hl (hQ _ (Heap.size_push ..) (fun c o e => Heap.get?_push_of_some _ e) (show Heap.IsListIter _ _ _ _ from ⟨_, Heap.get?_push_size _ rfl, rfl, rfl⟩))
/-- a loop whose every turn goes on -/
theorem forIn_steps {M : Model} {α β : Type} {f : α → β → Sem (ForInStep β)} {Q : β → Shared → Prop} : ∀ (l : List α) (b : Nat → β) (J : Nat → Shared → Prop) (i : Nat) (s : Shared),
    (∀ j a s, l[j]? = some a → J (i + j) s → wpAny M A (f a (b (i + j))) (fun r s' => r = .yield (b (i + j + 1)) ∧ J (i + j + 1) s') E s) → J i s → (∀ s, J (i + l.length) s → Q (b (i + l.length)) s) → wpAny M A (forIn l (b i) f) Q E s
  | [], b, J, i, s, _, h0, hQ => by
    rw [List.forIn_nil]
    exact wpAny_pure (hQ s h0)
  | a :: l, b, J, i, s, hs, h0, hQ => by
    rw [List.forIn_cons]
    refine wpAny_bind (wpAny_mono (hs 0 a s rfl h0) (fun r s' hr => ?_) fun _ _ e => e)
    obtain ⟨rfl, hJ⟩ := hr
    refine forIn_steps l b J (i + 1) s' (fun j a' s2 hj hJ2 => ?_) hJ fun s2 hJ2 => ?_
    · have e : i + 1 + j = i + (j + 1) := by omega
      rw [e] at hJ2 ⊢
      exact hs (j + 1) a' s2 hj hJ2
    · have e : i + 1 + l.length = i + (a :: l).length := by simp only [List.length_cons]; omega
      rw [e] at hJ2 ⊢
      exact hQ s2 hJ2
end
abbrev IsZipN (h : Heap) (z TI TO : Addr) (f0 f1 : Value) : Prop :=
  h.get? z = some { cls := .type "zip", dict := none, data := .fields #[f0, f1, .bool false, .ref TI, .ref TO], slots := #[] }
abbrev IsTupN (h : Heap) (T : Addr) (vs : List Value) : Prop := h.get? T = some { cls := .type "tuple", data := .seq vs.toArray }
/-- the iterators: kind, place, what is walked -/
abbrev Src := Bool × Addr × Addr
structure Apart (z TI TO : Addr) (ss : List Src) : Prop where
  TIz : TI ≠ z
  TOz : TO ≠ z
  TITO : TI ≠ TO
  iz : ∀ q ∈ ss, q.2.1 ≠ z ∧ q.2.1 ≠ TI ∧ q.2.1 ≠ TO
  lz : ∀ q ∈ ss, q.2.2 ≠ z ∧ q.2.2 ≠ TI ∧ q.2.2 ≠ TO
  il : ∀ q ∈ ss, ∀ r ∈ ss, q.2.1 ≠ r.2.2
  nd : (ss.map (·.2.1)).Nodup
end Zn

namespace Zn
open PySem
open PySem.Sem (wp)
/-- all iterators stand at k over their items -/
def At (h : Heap) (k : Nat) (ss : List Src) (xss : List (Array Value)) : Prop := ∀ (j : Nat) (q : Src) (xs : Array Value), ss[j]? = some q → xss[j]? = some xs → ItK q.1 h q.2.1 q.2.2 k ∧ SqK q.1 h q.2.2 xs
/-- the first j of them stand one further -/
def Mid (h : Heap) (k j : Nat) (ss : List Src) (xss : List (Array Value)) : Prop := ∀ (i : Nat) (q : Src) (xs : Array Value), ss[i]? = some q → xss[i]? = some xs → ItK q.1 h q.2.1 q.2.2 (if i < j then k + 1 else k) ∧ SqK q.1 h q.2.2 xs
theorem At.mid {h : Heap} {k : Nat} {ss : List Src} {xss : List (Array Value)} (a : At h k ss xss) : Mid h k 0 ss xss := fun i q xs h1 h2 => a i q xs h1 h2
theorem Mid.done {h : Heap} {k n : Nat} {ss : List Src} {xss : List (Array Value)} (m : Mid h k n ss xss) (hn : n = ss.length) : At h (k + 1) ss xss := fun i q xs h1 h2 => by
  have := m i q xs h1 h2
  rw [if_pos (by rw [hn]; exact (List.getElem?_eq_some_iff.mp h1).1)] at this
  exact this
/-- all but z, TO and the iterators as they were -/
def Rest (z TO : Addr) (ss : List Src) (h h' : Heap) : Prop := ∀ c o, c ≠ z → c ≠ TO → (∀ q ∈ ss, c ≠ q.2.1) → h.get? c = some o → h'.get? c = some o
theorem Mid.ext {z TI TO : Addr} {h h' : Heap} {k j : Nat} {ss : List Src} {xss : List (Array Value)} (D : Apart z TI TO ss) (m : Mid h k j ss xss) (e : ∀ c o, c ≠ z → c ≠ TO → h.get? c = some o → h'.get? c = some o) : Mid h' k j ss xss := fun i q xs h1 h2 => by
  obtain ⟨a, b⟩ := m i q xs h1 h2
  have hq := List.mem_of_getElem? h1
  exact ⟨a.at fun o => e _ o (D.iz q hq).1 (D.iz q hq).2.2, b.at fun o => e _ o (D.lz q hq).1 (D.lz q hq).2.2⟩
theorem Mid.step {z TI TO : Addr} {h h' : Heap} {k j : Nat} {ss : List Src} {xss : List (Array Value)} {q : Src} (D : Apart z TI TO ss) (m : Mid h k j ss xss) (hq : ss[j]? = some q) (hi : ItK q.1 h' q.2.1 q.2.2 (k + 1)) (e : ∀ c o, c ≠ q.2.1 → h.get? c = some o → h'.get? c = some o) : Mid h' k (j + 1) ss xss := fun i r xs h1 h2 => by
  obtain ⟨a, b⟩ := m i r xs h1 h2
  have mr := List.mem_of_getElem? h1
  have mq := List.mem_of_getElem? hq
  refine ⟨?_, b.at fun o => e _ o (fun x => D.il q mq r mr x.symm)⟩
  by_cases ij : i = j
  · subst ij
    rw [hq] at h1
    cases h1
    rw [if_pos (Nat.lt_succ_self _)]
    exact hi
  · have ne : r.2.1 ≠ q.2.1 := fun x => ij (by
      obtain ⟨l1, e1⟩ := List.getElem?_eq_some_iff.mp h1
      obtain ⟨l2, e2⟩ := List.getElem?_eq_some_iff.mp hq
      have nd := List.pairwise_iff_getElem.mp D.nd
      rcases Nat.lt_trichotomy i j with lt | rfl | gt
      · exact absurd (by rw [List.getElem_map, List.getElem_map, e1, e2]; exact x) (nd i j (by rw [List.length_map]; exact l1) (by rw [List.length_map]; exact l2) lt)
      · rfl
      · exact absurd (by rw [List.getElem_map, List.getElem_map, e1, e2]; exact x.symm) (nd j i (by rw [List.length_map]; exact l2) (by rw [List.length_map]; exact l1) gt))
    have : (if i < j + 1 then k + 1 else k) = (if i < j then k + 1 else k) := by
      by_cases c : i < j
      · rw [if_pos c, if_pos (by omega)]
      · rw [if_neg c, if_neg (by omega)]
    rw [this]
    exact a.at fun o => e _ o ne
/-- what has been given out ahead -/
def Own (f0 : Value) : Prop := f0 = .none ∨ ∃ a, f0 = rawInt a
section
variable {prog : Program} {w : World} {A : Around} {E : Value → Shared → Prop} {s : Shared}
theorem alive {M : Model} {a : Addr} {Q : Option Obj → Shared → Prop} (h : Q (s.heap.get? a) s) : wpAny M A (loadIfAlive a) Q E s := fun _ _ _ => h
theorem set_mix {vs os : List Value} {j : Nat} {x : Value} (hl : os.length = vs.length) (hj : vs[j]? = some x) : (vs.take j ++ os.drop j).toArray.setIfInBounds j x = (vs.take (j + 1) ++ os.drop (j + 1)).toArray := by
  have hjl : j < vs.length := (List.getElem?_eq_some_iff.mp hj).1
  rw [List.setIfInBounds_toArray]
  congr 1
  have ho : os.drop j = os[j] :: os.drop (j + 1) := List.drop_eq_getElem_cons (by omega)
  have hlen : (vs.take j).length = j := by rw [List.length_take]; omega
  rw [ho, List.set_append_right _ _ (by omega), hlen, Nat.sub_self, List.set_cons_zero, List.take_add_one, hj]
  simp
theorem owned_free {z TI TO : Addr} {f0 f1 : Value} {Q : Bool → Shared → Prop} (hf : Own f0) (hz : IsZipN s.heap z TI TO f0 f1)
    (hQ : ∀ b h' f1', IsZipN h' z TI TO f0 f1' → Heap.SameBut z s.heap h' → Q b { s with heap := h' }) : wpAny (model prog w) A (Builtin.SmallTypes.ownedTupleIsFree (.ref z)) Q E s := by
  unfold Builtin.SmallTypes.ownedTupleIsFree
  refine wpAny_bind (wpAny_field hz rfl (x := f0) rfl ?_)
  rcases hf with rfl | ⟨a, rfl⟩
  · exact wpAny_pure (hQ true s.heap f1 hz (Heap.SameBut.refl ..))
  · show wpAny _ _ (loadIfAlive a.toNat >>= _) _ _ _
    refine wpAny_bind (alive ?_)
    cases s.heap.get? a.toNat with
    | none => exact wpAny_pure (hQ true s.heap f1 hz (Heap.SameBut.refl ..))
    | some o =>
      show wpAny _ _ (field (Value.ref z) 1 >>= _) _ _ _
      refine wpAny_bind (wpAny_field hz rfl (x := f1) rfl ?_)
      by_cases c : (f1 != Value.bool true) = true
      · rw [if_pos c]
        refine wpAny_bind (wpAny_setField_rec hz (by simp) fun h₁ hz₁ hs₁ => ?_)
        exact wpAny_pure (hQ false h₁ (.bool true) hz₁ hs₁)
      · rw [if_neg c]
        exact wpAny_pure (hQ false s.heap f1 hz (Heap.SameBut.refl ..))
end
end Zn

namespace Zn
open PySem
open PySem.Sem (wp)
section
variable {prog : Program} {w : World} {A : Around} {E : Value → Shared → Prop} {s : Shared}
/-- what stands after a turn -/
def After (z TI TO : Addr) (k : Nat) (ss : List Src) (xss : List (Array Value)) (vs : List Value) (h h' : Heap) : Prop :=
  (∃ f0 f1, Own f0 ∧ IsZipN h' z TI TO f0 f1) ∧ (∃ os, os.length = ss.length ∧ IsTupN h' TO os) ∧ At h' (k + 1) ss xss ∧ IsTupN h' h.objs.size vs ∧ h'.objs.size = h.objs.size + 1 ∧ Rest z TO ss h h'
theorem zip_item {z TI TO : Addr} {f0 f1 : Value} {ss : List Src} {xss : List (Array Value)} {k : Nat} {vs os : List Value} {Q : Value → Shared → Prop} (D : Apart z TI TO ss) (hne : ss ≠ []) (hl : xss.length = ss.length) (hv : vs.length = ss.length) (hsz : ss.length ≤ sizeLine)
    (hf : Own f0) (hz : IsZipN s.heap z TI TO f0 f1) (hTI : IsTupN s.heap TI (ss.map fun q => .ref q.2.1)) (hTO : IsTupN s.heap TO os) (ho : os.length = ss.length)
    (ha : At s.heap k ss xss) (hx : ∀ (j : Nat) (xs : Array Value), xss[j]? = some xs → xs[k]? = vs[j]?)
    (hQ : ∀ h', After z TI TO k ss xss vs s.heap h' → Q (.ref s.heap.objs.size) { s with heap := h' }) :
    wpAny (model prog w) A (Builtin.«zip.__next__» ⟨[.ref z], []⟩) (fun fin s' => ∃ v, fin = .done (.ret v) ∧ Q v s') E s := by
  show wpAny _ _ (field (.ref z) 2 >>= _) _ _ _
  refine wpAny_bind (wpAny_field hz rfl (x := .bool false) rfl ?_)
  show wpAny _ _ (field (.ref z) 3 >>= _) _ _ _
  refine wpAny_bind (wpAny_field hz rfl (x := .ref TI) rfl ?_)
  refine wpAny_bind (wpAny_seqItems hTI rfl ?_)
  have he : (ss.map fun q => Value.ref q.2.1).toArray.isEmpty = false := by
    cases ss with
    | nil => exact absurd rfl hne
    | cons a l => rfl
  simp only [he, Bool.false_eq_true, if_false]
  show wpAny _ _ (Builtin.SmallTypes.ownedTupleIsFree (.ref z) >>= _) _ _ _
  refine wpAny_bind (owned_free hf hz fun b h₀ f1' hz₀ hs₀ => ?_)
  have ha₀ : Mid h₀ k 0 ss xss := ha.mid.ext D fun c o c1 _ e => (hs₀.2 c c1).trans e
  have hTO₀ : IsTupN h₀ TO os := (hs₀.2 _ D.TOz).trans hTO
  have hTI₀ : IsTupN h₀ TI _ := (hs₀.2 _ D.TIz).trans hTI
  have at_ : ∀ {j q}, ss[j]? = some q → ∃ xs, xss[j]? = some xs ∧ ∃ x, vs[j]? = some x ∧ xs[k]? = some x := fun {j q} e => by
    have lj := (List.getElem?_eq_some_iff.mp e).1
    have e1 : xss[j]? = some xss[j] := List.getElem?_eq_getElem (by omega)
    have e2 : vs[j]? = some vs[j] := List.getElem?_eq_getElem (by omega)
    exact ⟨_, e1, _, e2, (hx j _ e1).trans e2⟩
  cases b with
  | true =>
    simp only [if_true]
    refine wpAny_bind (wpAny_rule ?_)
    refine wpAny_bind (wpAny_field hz₀ rfl (x := .ref TO) rfl ?_)
    refine wpAny_bind (wpAny_setField_rec hz₀ (by simp) fun h₁ hz₁ hs₁ => ?_)
    replace hz₁ : IsZipN h₁ z TI TO .ellipsis f1' := hz₁
    refine wpAny_bind ?_
    refine forIn_steps (List.map (fun q => Value.ref q.snd.fst) ss).zipIdx (fun _ => ((none : Option Fin), ())) (fun j s' => ∃ h, s' = { s with heap := h } ∧ h.objs.size = s.heap.objs.size ∧ Mid h k j ss xss ∧ IsZipN h z TI TO .ellipsis f1' ∧ IsTupN h TO (vs.take j ++ os.drop j) ∧ Rest z TO ss s.heap h) 0 _ ?_ ?_ ?_
    · rintro j ⟨a, ja⟩ s2 haj ⟨h, rfl, hsz2, hm, hzz, hto, hr⟩
      rw [Nat.zero_add] at hm hto ⊢
      obtain ⟨q, hq, ea, eja⟩ : ∃ q, ss[j]? = some q ∧ a = .ref q.2.1 ∧ ja = j := by
        rw [List.getElem?_zipIdx] at haj
        simp only [List.getElem?_map, Option.map_map, Option.map_eq_some_iff] at haj
        obtain ⟨q, hq, e⟩ := haj
        have e' := Prod.mk.inj e
        exact ⟨q, hq, e'.1.symm, by have := e'.2; omega⟩
      subst ea eja
      obtain ⟨xs, hxs, x, hvx, hxk⟩ := at_ hq
      have mq := List.mem_of_getElem? hq
      obtain ⟨i1, i2⟩ := hm ja q xs hq hxs
      rw [if_neg (Nat.lt_irrefl _)] at i1
      refine wpAny_bind (wpAny_onRaise ?_)
      show wpAny _ _ (Builtin.SmallTypes.nextOf (.ref q.2.1) >>= _) _ _ _
      refine wpAny_bind (next_item i1 i2 hxk fun h₂ i3 hs₂ => wpAny_pure ?_)
      have hto₂ : IsTupN h₂ TO _ := (hs₂.2 _ (D.iz q mq).2.2.symm).trans hto
      refine wpAny_bind (wpAny_seqItems hto₂ rfl ?_)
      have sz : (vs.take ja ++ os.drop ja).toArray.size ≤ sizeLine := by
        simp only [List.size_toArray, List.length_append, List.length_take, List.length_drop]
        omega
      refine wpAny_bind (wpAny_updateSeq hto₂ rfl ?_ sz (by rw [Array.size_setIfInBounds]; omega))
      have hs₃ := Heap.SameBut.update h₂ TO (Obj.mapSeq (·.setIfInBounds ja x))
      have hto₃ : IsTupN (h₂.update TO (Obj.mapSeq (·.setIfInBounds ja x))) TO (vs.take (ja + 1) ++ os.drop (ja + 1)) := by
        have := Heap.get?_update_self (Obj.mapSeq (·.setIfInBounds ja x)) hto₂ rfl
        refine this.trans ?_
        rw [← set_mix (by omega) hvx]
        simp [Obj.mapSeq]
      refine wpAny_bind (wpAny_letGo (wpAny_pure ⟨rfl, _, rfl, hs₃.1.trans (hs₂.1.trans hsz2), ?_, ?_, hto₃, ?_⟩))
      · exact (hm.step D hq i3 fun c o cn e => (hs₂.2 c cn).trans e).ext D fun c o _ c2 e => (hs₃.2 c c2).trans e
      · exact (hs₃.2 _ D.TOz.symm).trans ((hs₂.2 _ (D.iz q mq).1.symm).trans hzz)
      · exact fun c o c1 c2 c3 e => (hs₃.2 c c2).trans ((hs₂.2 c (c3 q mq)).trans (hr c o c1 c2 c3 e))
    · exact ⟨h₁, rfl, hs₁.1.trans hs₀.1, ha₀.ext D fun c o c1 _ e => (hs₁.2 c c1).trans e, hz₁, by rw [List.take_zero, List.nil_append, List.drop_zero]; exact (hs₁.2 _ D.TOz).trans hTO₀,
        fun c o c1 _ _ e => (hs₁.2 c c1).trans ((hs₀.2 c c1).trans e)⟩
    · rintro s2 ⟨h, rfl, hsz2, hm, hzz, hto, hr⟩
      have hlen : (List.map (fun q => Value.ref q.snd.fst) ss).zipIdx.length = ss.length := by rw [List.length_zipIdx, List.length_map]
      rw [Nat.zero_add, hlen] at hm hto
      have hto : IsTupN h TO vs := by
        have e : vs.take ss.length ++ os.drop ss.length = vs := by rw [List.take_of_length_le (by omega), List.drop_of_length_le (by omega), List.append_nil]
        rw [e] at hto
        exact hto
      show wpAny _ _ (seqItems? (.ref TO) >>= _) _ _ _
      refine wpAny_bind (wpAny_seqItems hto rfl ?_)
      refine wpAny_bind (wpAny_newTuple ?_ (by simp only [List.toList_toArray]; omega))
      have hzlt : z < h.objs.size := Heap.lt_size hzz
      have hz₆ : IsZipN (h.push { cls := .type "tuple", data := .seq vs.toArray }) z TI TO .ellipsis f1' := Heap.get?_push_of_some _ hzz
      show wpAny _ _ (Builtin.SmallTypes.ownedTupleHandOut (.ref z) (.ref h.objs.size) >>= _) _ _ _
      refine wpAny_bind ?_
      unfold Builtin.SmallTypes.ownedTupleHandOut
      refine wpAny_bind (wpAny_setField_rec hz₆ (by simp) fun h₇ hz₇ hs₇ => ?_)
      replace hz₇ : IsZipN h₇ z TI TO (rawInt h.objs.size) f1' := hz₇
      refine wpAny_setField_rec hz₇ (by simp) fun h₈ hz₈ hs₈ => ?_
      replace hz₈ : IsZipN h₈ z TI TO (rawInt h.objs.size) (.bool false) := hz₈
      have up : ∀ c o, c ≠ z → h.get? c = some o → h₈.get? c = some o := fun c o c1 e => (hs₈.2 c c1).trans ((hs₇.2 c c1).trans (Heap.get?_push_of_some _ e))
      have hT₈ : IsTupN h₈ h.objs.size vs := (hs₈.2 _ (Nat.ne_of_gt hzlt)).trans ((hs₇.2 _ (Nat.ne_of_gt hzlt)).trans (Heap.get?_push_size _ rfl))
      refine wpAny_pure ⟨_, rfl, ?_⟩
      show Q (.ref h.objs.size) _
      rw [hsz2] at hT₈ ⊢
      refine hQ h₈ ⟨⟨_, _, .inr ⟨_, rfl⟩, hz₈⟩, ⟨vs, hv, up _ _ D.TOz hto⟩, (hm.ext D fun c o c1 _ e => up c o c1 e).done rfl, hT₈, ?_, fun c o c1 c2 c3 e => up c o c1 (hr c o c1 c2 c3 e)⟩
      rw [hs₈.1, hs₇.1, Heap.size_push, hsz2]
  | false =>
    simp only [Bool.false_eq_true, if_false]
    refine wpAny_bind ?_
    rw [← Array.forIn_toList]
    refine forIn_steps (List.map (fun q => Value.ref q.snd.fst) ss) (fun j => ((none : Option Fin), (vs.take j).toArray)) (fun j s' => ∃ h, s' = { s with heap := h } ∧ h.objs.size = s.heap.objs.size ∧ Mid h k j ss xss ∧ IsZipN h z TI TO f0 f1' ∧ IsTupN h TO os ∧ Rest z TO ss s.heap h) 0 _ ?_ ?_ ?_
    · rintro j a s2 haj ⟨h, rfl, hsz2, hm, hzz, hto, hr⟩
      rw [Nat.zero_add] at hm ⊢
      obtain ⟨q, hq, ea⟩ : ∃ q, ss[j]? = some q ∧ a = .ref q.2.1 := by
        simp only [List.getElem?_map, Option.map_eq_some_iff] at haj
        obtain ⟨q, hq, e⟩ := haj
        exact ⟨q, hq, e.symm⟩
      subst ea
      obtain ⟨xs, hxs, x, hvx, hxk⟩ := at_ hq
      have mq := List.mem_of_getElem? hq
      obtain ⟨i1, i2⟩ := hm j q xs hq hxs
      rw [if_neg (Nat.lt_irrefl _)] at i1
      refine wpAny_bind (wpAny_holding ?_)
      show wpAny _ _ (Builtin.SmallTypes.nextOf (.ref q.2.1) >>= _) _ _ _
      refine wpAny_bind (next_item i1 i2 hxk fun h₂ i3 hs₂ => wpAny_pure ?_)
      refine wpAny_pure ⟨?_, h₂, rfl, hs₂.1.trans hsz2, hm.step D hq i3 fun c o cn e => (hs₂.2 c cn).trans e, (hs₂.2 _ (D.iz q mq).1.symm).trans hzz, (hs₂.2 _ (D.iz q mq).2.2.symm).trans hto, fun c o c1 c2 c3 e => (hs₂.2 c (c3 q mq)).trans (hr c o c1 c2 c3 e)⟩
      rw [List.take_add_one, hvx]
      simp
    · exact ⟨h₀, rfl, hs₀.1, ha₀, hz₀, hTO₀, fun c o c1 _ _ e => (hs₀.2 c c1).trans e⟩
    · rintro s2 ⟨h, rfl, hsz2, hm, hzz, hto, hr⟩
      rw [Nat.zero_add, List.length_map] at hm
      have e : (vs.take (0 + (List.map (fun q => Value.ref q.snd.fst) ss).length)) = vs := by rw [Nat.zero_add, List.length_map, List.take_of_length_le (by omega)]
      rw [e]
      refine wpAny_bind (wpAny_newTuple ?_ (by simp only [List.toList_toArray]; omega))
      have up : ∀ c o, h.get? c = some o → (h.push { cls := .type "tuple", data := .seq vs.toArray.toList.toArray }).get? c = some o := fun c o e => Heap.get?_push_of_some _ e
      refine wpAny_pure ⟨_, rfl, ?_⟩
      show Q (.ref h.objs.size) _
      rw [hsz2]
      refine hQ _ ⟨⟨_, _, hf, up _ _ hzz⟩, ⟨os, ho, up _ _ hto⟩, (hm.ext D fun c o _ _ e => up c o e).done rfl, ?_, ?_, fun c o c1 c2 c3 e => up c o (hr c o c1 c2 c3 e)⟩
      · rw [← hsz2]
        exact Heap.get?_push_size _ rfl
      · rw [Heap.size_push, hsz2]
end
end Zn

namespace Zn
open PySem
open PySem.Sem (wp)
section
variable {prog : Program} {w : World} {A : Around} {E : Value → Shared → Prop} {s : Shared}
/-- where the first source has come to its end, or there is none -/
def Out (h : Heap) (k : Nat) (ss : List Src) : Prop := ss = [] ∨ ∃ (q : Src) (xs : Array Value), ss[0]? = some q ∧ ItK q.1 h q.2.1 q.2.2 k ∧ SqK q.1 h q.2.2 xs ∧ xs[k]? = none
theorem stop_out {α : Type} {Q : α → Shared → Prop} (hh : A.handled = none) (hE : ∀ h' e, (∀ c o, s.heap.get? c = some o → h'.get? c = some o) → (∃ o, h'.get? e = some o ∧ o.cls = .type "StopIteration") → E (.ref e) { s with heap := h' }) :
    wpAny (model prog w) A (Builtin.SmallTypes.stopIteration : Sem α) Q E s := by
  show wpAny _ _ (newExc (.type "StopIteration") [] >>= _) _ _ _
  refine wpAny_bind ?_
  simp only [newExc, newTuple]
  refine wpAny_bind (wpAny_newObj_type ?_ (by size_fits))
  refine wpAny_bind (m := firstArgMember _ _) (wpAny_of_eq (a := Value.none) (by first | rfl | (simp only [firstArgMember]; rfl)) (wpAny_newObj_type ?_ (by size_fits)))
  simp only [raiseNew]
  refine wpAny_bind (wpAny_handled ?_)
  first | rw [show A.in1.handled = none from hh] | rw [hh]
  refine wpAny_bind (wpAny_pure (wpAny_throw ?_))
  exact hE _ _ (fun c o e => Heap.get?_push_of_some _ (Heap.get?_push_of_some _ e)) ⟨_, Heap.get?_push_size _ rfl, rfl⟩
theorem zip_end {z TI TO : Addr} {f0 f1 : Value} {ss : List Src} {k : Nat} {os : List Value} {Q : Fin → Shared → Prop} (hh : A.handled = none) (D : Apart z TI TO ss)
    (hf : Own f0) (hz : IsZipN s.heap z TI TO f0 f1) (hTI : IsTupN s.heap TI (ss.map fun q => .ref q.2.1)) (hTO : IsTupN s.heap TO os) (ho : os.length = ss.length)
    (hx : Out s.heap k ss)
    (hE : ∀ h' e, Rest z TO ss s.heap h' → (∃ o, h'.get? e = some o ∧ o.cls = .type "StopIteration") → E (.ref e) { s with heap := h' }) :
    wpAny (model prog w) A (Builtin.«zip.__next__» ⟨[.ref z], []⟩) Q E s := by
  show wpAny _ _ (field (.ref z) 2 >>= _) _ _ _
  refine wpAny_bind (wpAny_field hz rfl (x := .bool false) rfl ?_)
  show wpAny _ _ (field (.ref z) 3 >>= _) _ _ _
  refine wpAny_bind (wpAny_field hz rfl (x := .ref TI) rfl ?_)
  refine wpAny_bind (wpAny_seqItems hTI rfl ?_)
  match ss, D, hTI, ho, hx, hE with
  | [], D, hTI, ho, hx, hE =>
    show wpAny _ _ (rule _ >>= _) _ _ _
    refine wpAny_bind (wpAny_rule ?_)
    exact wpAny_bind (stop_out hh fun h' e k1 k2 => hE h' e (fun c o _ _ _ e => k1 c o e) k2)
  | q :: ss, D, hTI, ho, hx, hE =>
    obtain ⟨i0, s0⟩ : ∃ xs, ItK q.1 s.heap q.2.1 q.2.2 k ∧ SqK q.1 s.heap q.2.2 xs ∧ xs[k]? = none := by
      obtain ⟨q', xs, e, r⟩ := hx.resolve_left (fun e => nomatch e)
      cases e
      exact ⟨xs, r⟩
    obtain ⟨i0, s0, hxk⟩ := s0
    have he : (List.map (fun q => Value.ref q.2.1) (q :: ss)).toArray.isEmpty = false := rfl
    simp only [he, Bool.false_eq_true, if_false]
    show wpAny _ _ (Builtin.SmallTypes.ownedTupleIsFree (.ref z) >>= _) _ _ _
    refine wpAny_bind (owned_free hf hz fun b h₀ f1' hz₀ hs₀ => ?_)
    have mq : q ∈ q :: ss := List.mem_cons_self
    have i0 := i0.at fun o e => (hs₀.2 _ (D.iz q mq).1).trans e
    have s0 := s0.at fun o e => (hs₀.2 _ (D.lz q mq).1).trans e
    have e0 : (List.map (fun q => Value.ref q.2.1) (q :: ss)) = .ref q.2.1 :: List.map (fun q => Value.ref q.2.1) ss := rfl
    cases b with
    | true =>
      simp only [if_true]
      refine wpAny_bind (wpAny_rule ?_)
      refine wpAny_bind (wpAny_field hz₀ rfl (x := .ref TO) rfl ?_)
      refine wpAny_bind (wpAny_setField_rec hz₀ (by simp) fun h₁ hz₁ hs₁ => ?_)
      replace hz₁ : IsZipN h₁ z TI TO .ellipsis f1' := hz₁
      refine wpAny_bind ?_
      have i1 := i0.at fun o e => (hs₁.2 _ (D.iz q mq).1).trans e
      have i2 := s0.at fun o e => (hs₁.2 _ (D.lz q mq).1).trans e
      simp only [e0, List.zipIdx_cons, List.forIn_cons]
      refine wpAny_bind (wpAny_bind (wpAny_onRaise ?_))
      show wpAny _ _ (Builtin.SmallTypes.nextOf (.ref q.2.1) >>= _) _ _ _
      refine wpAny_bind (next_end hh i1 i2 hxk fun h₂ e hs₂ ⟨oe, hoe, hce⟩ => ?_)
      have hz₂ : IsZipN h₂ z TI TO .ellipsis f1' := hs₂ _ _ (D.iz q mq).1.symm hz₁
      have hez : e ≠ z := fun x => by
        rw [x, hz₂] at hoe
        cases hoe
        simp at hce
      refine wpAny_setField_rec hz₂ (by simp) fun h₃ _ hs₃ => hE h₃ e (fun c o c1 _ c3 x => (hs₃.2 c c1).trans (hs₂ _ _ (c3 q mq) ((hs₁.2 c c1).trans ((hs₀.2 c c1).trans x)))) ⟨oe, (hs₃.2 _ hez).trans hoe, hce⟩
    | false =>
      simp only [Bool.false_eq_true, if_false]
      refine wpAny_bind ?_
      rw [← Array.forIn_toList]
      simp only [e0, List.forIn_cons]
      refine wpAny_bind (wpAny_bind (wpAny_holding ?_))
      show wpAny _ _ (Builtin.SmallTypes.nextOf (.ref q.2.1) >>= _) _ _ _
      refine wpAny_bind (next_end hh i0 s0 hxk fun h₂ e hs₂ he => hE h₂ e (fun c o c1 _ c3 x => hs₂ _ _ (c3 q mq) ((hs₀.2 c c1).trans x)) he)
theorem next_zip {z TI TO : Addr} {f0 f1 : Value} {ss : List Src} {xss : List (Array Value)} {k : Nat} {vs os : List Value} {Q : Option Value → Shared → Prop} (D : Apart z TI TO ss) (hne : ss ≠ []) (hl : xss.length = ss.length) (hv : vs.length = ss.length) (hsz : ss.length ≤ sizeLine)
    (hf : Own f0) (hz : IsZipN s.heap z TI TO f0 f1) (hTI : IsTupN s.heap TI (ss.map fun q => .ref q.2.1)) (hTO : IsTupN s.heap TO os) (ho : os.length = ss.length)
    (ha : At s.heap k ss xss) (hx : ∀ (j : Nat) (xs : Array Value), xss[j]? = some xs → xs[k]? = vs[j]?)
    (hQ : ∀ h', After z TI TO k ss xss vs s.heap h' → Q (some (.ref s.heap.objs.size)) { s with heap := h' }) : wpAny (model prog w) A (pyNext (.ref z)) Q E s := by
  have hT : s.TypeIs (.ref z) "zip" := ⟨_, hz, rfl⟩
  unfold pyNext
  exact wpAny_bind (wpAny_attempt (wpAny_callSpecial?_slot (name := Str.ofString "__next__") hT F.slot_zip_next (wpAny_call_entry F.slot_zip_next hT F.entry_zip_next
    (zip_item D hne hl hv hsz hf hz hTI hTO ho ha hx fun h' a => wpAny_pure (hQ h' a)) (F.args_zip_next_1 _))))
theorem next_zip_end {z TI TO : Addr} {f0 f1 : Value} {ss : List Src} {k : Nat} {os : List Value} {Q : Option Value → Shared → Prop} (hh : A.handled = none) (D : Apart z TI TO ss)
    (hf : Own f0) (hz : IsZipN s.heap z TI TO f0 f1) (hTI : IsTupN s.heap TI (ss.map fun q => .ref q.2.1)) (hTO : IsTupN s.heap TO os) (ho : os.length = ss.length)
    (hx : Out s.heap k ss)
    (hQ : ∀ h', Rest z TO ss s.heap h' → Q none { s with heap := h' }) : wpAny (model prog w) A (pyNext (.ref z)) Q E s := by
  have hT : s.TypeIs (.ref z) "zip" := ⟨_, hz, rfl⟩
  unfold pyNext
  refine wpAny_bind (wpAny_attempt (wpAny_callSpecial?_slot (name := Str.ofString "__next__") hT F.slot_zip_next (wpAny_call_entry F.slot_zip_next hT F.entry_zip_next
    (zip_end hh D hf hz hTI hTO ho hx fun h' e hk he => ?_) (F.args_zip_next_1 _))))
  obtain ⟨o, ho, hc⟩ := he
  exact wpAny_bind (wpAny_isInstance (T := "StopIteration") (b := true) ⟨o, ho, hc⟩ isSubtype_stop (wpAny_pure (hQ _ hk)))
/-- the step ahead of the store, for any target -/
theorem go_zip {tg : Expr} {z TI TO T : Addr} {f0 f1 : Value} {Q : Unit → Shared → Prop} (hf : Own f0) (hz : IsZipN s.heap z TI TO f0 f1)
    (hQ : ∀ h' f0', Own f0' → IsZipN h' z TI TO f0' f1 → Heap.SameBut z s.heap h' → Q () { s with heap := h' }) : wpAny (model prog w) A (letOwnedTupleGo tg (.ref z) (.ref T)) Q E s := by
  have same := hQ s.heap f0 hf hz (Heap.SameBut.refl ..)
  have main : wpAny (model prog w) A (do
      let o ← load z
      match o.cls, o.data with
      | .type n, .fields vs =>
        if ["enumerate", "zip", "dict_itemiterator", "dict_reverseitemiterator", "odict_iterator", "itertools.zip_longest", "itertools.pairwise"].contains n && vs[0]? == some (rawInt T) then
          rule "for.unpacks-the-owned-tuple"
          updateField z 0 .none
      | _, _ => pure ()) Q E s := by
    refine wpAny_bind (wpAny_load hz ?_)
    by_cases c : (["enumerate", "zip", "dict_itemiterator", "dict_reverseitemiterator", "odict_iterator", "itertools.zip_longest", "itertools.pairwise"].contains "zip" && (#[f0, f1, .bool false, .ref TI, .ref TO] : Array Value)[0]? == some (rawInt T)) = true
    · show wpAny _ _ (if _ then _ else _) _ _ _
      rw [if_pos c]
      refine wpAny_bind (wpAny_rule ?_)
      show wpAny _ _ (setField (.ref z) 0 .none) Q E s
      exact wpAny_setField_rec hz (by simp) fun h' hz' hs' => hQ h' .none (.inl rfl) hz' hs'
    · show wpAny _ _ (if _ then _ else _) _ _ _
      rw [if_neg c]
      exact wpAny_pure same
  unfold letOwnedTupleGo
  cases tg <;> first
    | exact wpAny_pure same
    | exact main
end
end Zn

namespace Zn
open PySem PySem.F
theorem tc : ∀ us : List Value, us.length ≤ 12 → checkTypeCall "zip" ⟨us, []⟩ = pure ()
  | [], _ => by kernel_rfl
  | [a0], _ => by kernel_rfl
  | [a0, a1], _ => by kernel_rfl
  | [a0, a1, a2], _ => by kernel_rfl
  | [a0, a1, a2, a3], _ => by kernel_rfl
  | [a0, a1, a2, a3, a4], _ => by kernel_rfl
  | [a0, a1, a2, a3, a4, a5], _ => by kernel_rfl
  | [a0, a1, a2, a3, a4, a5, a6], _ => by kernel_rfl
  | [a0, a1, a2, a3, a4, a5, a6, a7], _ => by kernel_rfl
  | [a0, a1, a2, a3, a4, a5, a6, a7, a8], _ => by kernel_rfl
  | [a0, a1, a2, a3, a4, a5, a6, a7, a8, a9], _ => by kernel_rfl
  | [a0, a1, a2, a3, a4, a5, a6, a7, a8, a9, a10], _ => by kernel_rfl
  | [a0, a1, a2, a3, a4, a5, a6, a7, a8, a9, a10, a11], _ => by kernel_rfl
  | _ :: _ :: _ :: _ :: _ :: _ :: _ :: _ :: _ :: _ :: _ :: _ :: _ :: _, h => by simp only [List.length_cons] at h; omega
theorem nc : ∀ us : List Value, us.length ≤ 12 → checkBuiltinCall "zip.__new__" ⟨.type "zip" :: us, []⟩ = pure ()
  | [], _ => by kernel_rfl
  | [a0], _ => by kernel_rfl
  | [a0, a1], _ => by kernel_rfl
  | [a0, a1, a2], _ => by kernel_rfl
  | [a0, a1, a2, a3], _ => by kernel_rfl
  | [a0, a1, a2, a3, a4], _ => by kernel_rfl
  | [a0, a1, a2, a3, a4, a5], _ => by kernel_rfl
  | [a0, a1, a2, a3, a4, a5, a6], _ => by kernel_rfl
  | [a0, a1, a2, a3, a4, a5, a6, a7], _ => by kernel_rfl
  | [a0, a1, a2, a3, a4, a5, a6, a7, a8], _ => by kernel_rfl
  | [a0, a1, a2, a3, a4, a5, a6, a7, a8, a9], _ => by kernel_rfl
  | [a0, a1, a2, a3, a4, a5, a6, a7, a8, a9, a10], _ => by kernel_rfl
  | [a0, a1, a2, a3, a4, a5, a6, a7, a8, a9, a10, a11], _ => by kernel_rfl
  | _ :: _ :: _ :: _ :: _ :: _ :: _ :: _ :: _ :: _ :: _ :: _ :: _ :: _, h => by simp only [List.length_cons] at h; omega
theorem oi (o : Value) : ∀ us : List Value, us.length ≤ 12 → argsOk "object.__init__" ⟨o :: us, []⟩ := by
  unfold argsOk
  rw [signature?_of (id := "object.__init__") (n := ['_', '_', 't', 'i', 'n', 'i', '_', '_']) (o := ['t', 'c', 'e', 'j', 'b', 'o']) (by kernel_rfl) owner_object]
  exact fun us h => match us, h with
  | [], _ => by kernel_rfl
  | [a0], _ => by kernel_rfl
  | [a0, a1], _ => by kernel_rfl
  | [a0, a1, a2], _ => by kernel_rfl
  | [a0, a1, a2, a3], _ => by kernel_rfl
  | [a0, a1, a2, a3, a4], _ => by kernel_rfl
  | [a0, a1, a2, a3, a4, a5], _ => by kernel_rfl
  | [a0, a1, a2, a3, a4, a5, a6], _ => by kernel_rfl
  | [a0, a1, a2, a3, a4, a5, a6, a7], _ => by kernel_rfl
  | [a0, a1, a2, a3, a4, a5, a6, a7, a8], _ => by kernel_rfl
  | [a0, a1, a2, a3, a4, a5, a6, a7, a8, a9], _ => by kernel_rfl
  | [a0, a1, a2, a3, a4, a5, a6, a7, a8, a9, a10], _ => by kernel_rfl
  | [a0, a1, a2, a3, a4, a5, a6, a7, a8, a9, a10, a11], _ => by kernel_rfl
  | _ :: _ :: _ :: _ :: _ :: _ :: _ :: _ :: _ :: _ :: _ :: _ :: _ :: _, h => by simp only [List.length_cons] at h; omega
end Zn

namespace Zn
open PySem
open PySem.Sem (wp)
/-- what is walked, at its place -/
def Laid (h : Heap) (bs : List (Bool × Addr)) (xss : List (Array Value)) : Prop := ∀ (j : Nat) (q : Bool × Addr) (xs : Array Value), bs[j]? = some q → xss[j]? = some xs → SqK q.1 h q.2 xs
/-- the sources of iterators that stand from n on -/
def srcs (n : Nat) (bs : List (Bool × Addr)) : List Src := bs.zipIdx.map fun q => (q.1.1, n + q.2, q.1.2)
theorem srcs_get {n : Nat} {bs : List (Bool × Addr)} {j : Nat} {q : Src} : (srcs n bs)[j]? = some q ↔ ∃ b, bs[j]? = some b ∧ q = (b.1, n + j, b.2) := by
  unfold srcs
  simp only [List.getElem?_map, List.getElem?_zipIdx, Option.map_map, Option.map_eq_some_iff, Nat.zero_add]
  constructor
  · rintro ⟨b, e, rfl⟩
    exact ⟨b, e, rfl⟩
  · rintro ⟨b, e, rfl⟩
    exact ⟨b, e, rfl⟩
theorem srcs_len {n : Nat} {bs : List (Bool × Addr)} : (srcs n bs).length = bs.length := by
  unfold srcs
  rw [List.length_map, List.length_zipIdx]
section
variable {prog : Program} {w : World} {A : Around} {E : Value → Shared → Prop} {s : Shared}
theorem iter_all {bs : List (Bool × Addr)} {xss : List (Array Value)} {Q : List Value → Shared → Prop} (hl : xss.length = bs.length) (hb : Laid s.heap bs xss)
    (hQ : ∀ h', h'.objs.size = s.heap.objs.size + bs.length → (∀ c o, s.heap.get? c = some o → h'.get? c = some o) → At h' 0 (srcs s.heap.objs.size bs) xss → Q ((srcs s.heap.objs.size bs).map fun q => .ref q.2.1) { s with heap := h' }) :
    wpAny (model prog w) A (Builtin.SmallTypes.iterAll (bs.map fun q => .ref q.2)) Q E s := by
  unfold Builtin.SmallTypes.iterAll
  refine wpAny_bind ?_
  refine forIn_steps (bs.map fun q => Value.ref q.2) (fun j => (((srcs s.heap.objs.size bs).map fun q => Value.ref q.2.1).take j).toArray)
    (fun j s' => ∃ h, s' = { s with heap := h } ∧ h.objs.size = s.heap.objs.size + j ∧ (∀ c o, s.heap.get? c = some o → h.get? c = some o) ∧ ∀ (i : Nat) (q : Src) (xs : Array Value), i < j → (srcs s.heap.objs.size bs)[i]? = some q → xss[i]? = some xs → ItK q.1 h q.2.1 q.2.2 0) 0 _ ?_ ?_ ?_
  · rintro j a s2 haj ⟨h, rfl, hz, hk, hi⟩
    rw [Nat.zero_add] at hz hi ⊢
    obtain ⟨q, hq, rfl⟩ : ∃ q, bs[j]? = some q ∧ Value.ref q.2 = a := by
      simpa only [List.getElem?_map, Option.map_eq_some_iff] using haj
    have lj := (List.getElem?_eq_some_iff.mp hq).1
    have e1 : xss[j]? = some xss[j] := List.getElem?_eq_getElem (by omega)
    have hs := hb j q _ hq e1
    refine wpAny_bind (wpAny_holding (iter_seq (s := { s with heap := h }) (hs.at fun o e => hk _ _ e) fun h' z1 k1 i1 => ?_))
    have z1 : h'.objs.size = h.objs.size + 1 := z1
    have i1 : ItK q.1 h' h.objs.size q.2 0 := i1
    have k1 : ∀ c o, h.get? c = some o → h'.get? c = some o := k1
    have eq : (srcs s.heap.objs.size bs)[j]? = some (q.1, s.heap.objs.size + j, q.2) := srcs_get.mpr ⟨q, hq, rfl⟩
    refine wpAny_pure ⟨?_, h', rfl, by omega, fun c o e => k1 c o (hk c o e), fun i r xs hij hr hx => ?_⟩
    · show ForInStep.yield ((List.take j _).toArray.push (Value.ref h.objs.size)) = _
      rw [List.take_add_one, List.getElem?_map, eq, hz]
      simp
    · by_cases c : i = j
      · subst c
        rw [eq] at hr
        cases hr
        rw [← hz]
        exact i1
      · exact (hi i r xs (by omega) hr hx).at fun o e => k1 _ _ e
  · exact ⟨s.heap, rfl, rfl, fun _ _ e => e, fun i q xs hi => absurd hi (Nat.not_lt_zero _)⟩
  · rintro s2 ⟨h, rfl, hz, hk, hi⟩
    rw [Nat.zero_add, List.length_map] at hz hi ⊢
    have e : List.take bs.length ((srcs s.heap.objs.size bs).map fun q => Value.ref q.2.1) = (srcs s.heap.objs.size bs).map fun q => Value.ref q.2.1 := List.take_of_length_le (by rw [List.length_map, srcs_len]; exact Nat.le_refl _)
    rw [e]
    refine wpAny_pure ?_
    refine hQ h hz hk fun i q xs hq hx => ⟨hi i q xs (by rw [← srcs_len (n := s.heap.objs.size)]; exact (List.getElem?_eq_some_iff.mp hq).1) hq hx, ?_⟩
    obtain ⟨b, hbq, rfl⟩ := srcs_get.mp hq
    exact (hb i b xs hbq hx).at fun o e => hk _ _ e
end
theorem class_zip (us : List Value) : Builtin.SmallTypes.newClass "zip" ⟨.type "zip" :: us, []⟩ = pure (.type "zip", us) := by
  unfold Builtin.SmallTypes.newClass
  show (isType (.type "zip") >>= _) = _
  have h1 : isType (.type "zip") = pure true := rfl
  simp only [h1, pure_bind, sub_zip]
  rfl
theorem meets_new (bs : List (Bool × Addr)) (xss : List (Array Value)) (hl : xss.length = bs.length) (hz : bs.length ≤ sizeLine) :
    Meets (Builtin.«zip.__new__» ⟨.type "zip" :: bs.map (fun q => .ref q.2), []⟩) (fun _ R s => Laid s.heap bs xss ∧ ∀ h', (∀ c o, s.heap.get? c = some o → h'.get? c = some o) → h'.objs.size = s.heap.objs.size + bs.length + 3 →
      At h' 0 (srcs s.heap.objs.size bs) xss → IsTupN h' (s.heap.objs.size + bs.length) ((srcs s.heap.objs.size bs).map fun q => .ref q.2.1) → IsTupN h' (s.heap.objs.size + bs.length + 1) ((srcs s.heap.objs.size bs).map fun _ => .none) →
      IsZipN h' (s.heap.objs.size + bs.length + 2) (s.heap.objs.size + bs.length) (s.heap.objs.size + bs.length + 1) .none (.bool false) → R (.ok (.ret (.ref (s.heap.objs.size + bs.length + 2)))) { s with heap := h' }) :=
  .of_wp fun prog w A R s h => by
    obtain ⟨hb, h⟩ := h
    unfold Builtin.«zip.__new__»
    refine wpAny_bind (wpAny_of_eq (class_zip _) ?_)
    show wpAny _ _ (Builtin.SmallTypes.iterAll _ >>= _) _ _ _
    refine wpAny_bind (iter_all hl hb fun h' z1 k1 a1 => ?_)
    have hs2 : ((srcs s.heap.objs.size bs).map fun q => Value.ref q.2.1).length ≤ sizeLine := by rw [List.length_map, srcs_len]; exact hz
    refine wpAny_bind (wpAny_newTuple ?_ hs2)
    refine wpAny_bind (wpAny_newTuple ?_ (by rw [List.length_map]; exact hs2))
    have p1 : ∀ {hh : Heap} {x y : Obj} {c o}, hh.get? c = some o → ((hh.push x).push y).get? c = some o := fun e => Heap.get?_push_of_some _ (Heap.get?_push_of_some _ e)
    refine wpAny_bind ?_
    unfold Builtin.SmallTypes.newRecord
    refine wpAny_newObj_type (wpAny_pure ⟨_, rfl, ?_⟩) (by show 5 ≤ sizeLine + 2; decide)
    have s1 : (h'.push ({ cls := .type "tuple", data := .seq (List.map (fun q => Value.ref q.snd.fst) (srcs s.heap.objs.size bs)).toArray } : Obj)).objs.size = s.heap.objs.size + bs.length + 1 := by rw [Heap.size_push, z1]
    have s2 : ((h'.push ({ cls := .type "tuple", data := .seq (List.map (fun q => Value.ref q.snd.fst) (srcs s.heap.objs.size bs)).toArray } : Obj)).push ({ cls := .type "tuple", data := .seq (List.map (fun _ => Value.none) (List.map (fun q => Value.ref q.snd.fst) (srcs s.heap.objs.size bs))).toArray } : Obj)).objs.size = s.heap.objs.size + bs.length + 2 := by rw [Heap.size_push, s1]
    show R (Except.ok (Flow.ret (Value.ref (Heap.objs (Heap.push _ _)).size))) _
    rw [s2]
    refine h _ (fun c o e => Heap.get?_push_of_some _ (p1 (k1 c o e))) ?_ (fun i q xs hq hx => ?_) ?_ ?_ ?_
    · show (Heap.objs (Heap.push _ _)).size = _
      rw [Heap.size_push, s2]
    · obtain ⟨b, hbq, e⟩ := srcs_get.mp hq
      obtain ⟨x1, x2⟩ := a1 i q xs hq hx
      exact ⟨x1.at fun o e => Heap.get?_push_of_some _ (p1 e), x2.at fun o e => Heap.get?_push_of_some _ (p1 e)⟩
    · rw [← z1]
      exact Heap.get?_push_of_some _ (Heap.get?_push_of_some _ (Heap.get?_push_size _ rfl))
    · rw [← s1]
      refine (Heap.get?_push_of_some _ (Heap.get?_push_size _ rfl)).trans ?_
      rw [List.map_map]
      rfl
    · rw [← s2]
      refine (Heap.get?_push_size _ rfl).trans ?_
      show some ({ cls := .type "zip", data := .fields #[.none, .bool false, Value.bool false, Value.ref h'.objs.size, Value.ref (h'.push ({ cls := .type "tuple", data := .seq (List.map (fun q => Value.ref q.snd.fst) (srcs s.heap.objs.size bs)).toArray } : Obj)).objs.size] } : Obj) = _
      rw [s1, z1]
section
variable {prog : Program} {w : World} {A : Around} {E : Value → Shared → Prop} {s : Shared}
theorem call_zipN {bs : List (Bool × Addr)} {xss : List (Array Value)} {Q : Value → Shared → Prop} (hl : xss.length = bs.length) (hz : bs.length ≤ 12) (hb : Laid s.heap bs xss)
    (h : ∀ h', (∀ c o, s.heap.get? c = some o → h'.get? c = some o) → h'.objs.size = s.heap.objs.size + bs.length + 3 →
      At h' 0 (srcs s.heap.objs.size bs) xss → IsTupN h' (s.heap.objs.size + bs.length) ((srcs s.heap.objs.size bs).map fun q => .ref q.2.1) → IsTupN h' (s.heap.objs.size + bs.length + 1) ((srcs s.heap.objs.size bs).map fun _ => .none) →
      IsZipN h' (s.heap.objs.size + bs.length + 2) (s.heap.objs.size + bs.length) (s.heap.objs.size + bs.length + 1) .none (.bool false) → Q (.ref (s.heap.objs.size + bs.length + 2)) { s with heap := h' }) :
    wpAny (model prog w) A (call (.type "zip") (bs.map fun q => .ref q.2)) Q E s := by
  have hn : (bs.map fun q => Value.ref q.2).length ≤ 12 := by rw [List.length_map]; exact hz
  refine callType_new F.called_zip (by decide) (tc _ hn) (nc _ hn) (fun obj => oi obj _ hn) F.entry_zip_new (meets_new bs xss hl (Nat.le_trans hz (by decide))) ⟨hb, fun h' k z a t1 t2 iz => ?_⟩
  show _ ∧ _
  exact ⟨⟨_, iz, rfl⟩, h h' k z a t1 t2 iz⟩
theorem self_zip {z TI TO : Addr} {f0 f1 : Value} {Q : Value → Shared → Prop} (hz : IsZipN s.heap z TI TO f0 f1) (h : Q (.ref z) s) : wpAny (model prog w) A (pyIter (.ref z)) Q E s := by
  have hT : s.TypeIs (.ref z) "zip" := ⟨_, hz, rfl⟩
  refine wpAny_pyIter_slot hT F.slot_zip_iter (wpAny_call_entry F.slot_zip_iter hT F.entry_zip_iter ?_ (F.args_zip_iter_1 _))
  show wpAny _ _ (ret (.ref z)) _ _ s
  exact wpAny_pure ⟨_, rfl, "zip", _, hT, F.slot_zip_next.lookup, h⟩
end
end Zn

namespace Zn
open PySem PySem.Spec PyProof.Rows L2
/-- a list or a tuple of values -/
def SqV (K : PySem.W.Frag) (H : Hp) (b : Bool) (p : Addr) (xs : List V) : Prop := if b then SqL K H p xs else SqT K H p xs
theorem SqV.any {K : PySem.W.Frag} {H : Hp} {b : Bool} {p : Addr} {xs : List V} (h : SqV K H b p xs) : SqT K H p xs ∨ SqL K H p xs := by
  cases b
  · exact .inl h
  · exact .inr h
theorem SqV.get {X : Cx} {pins : List (Addr × Obj)} {σ : L2.St} {H : Hp} {s : Shared} {b : Bool} {p : Addr} {xs : List V} (I : Inv X pins σ H s) (h : SqV X.K H b p xs) : ∃ us, Vals xs us ∧ SqK b s.heap p us.toArray := by
  cases b
  · obtain ⟨its, r, pl, _⟩ := I.tuple h
    exact ⟨its, r, pl⟩
  · obtain ⟨its, r, pl, _⟩ := I.list h
    exact ⟨its, r, pl.isList⟩
theorem SqV.inj {X : Cx} {pins : List (Addr × Obj)} {σ : L2.St} {H : Hp} {s : Shared} {b : Bool} {p : Addr} {xs ys : List V} (I : Inv X pins σ H s) (h : SqV X.K H b p xs) (h' : SqV X.K H b p ys) : xs = ys := by
  cases b
  · exact I.tuple_inj h h'
  · exact I.list_inj h h'
abbrev Bs := List (Bool × Addr)
/-- the sources stand, each with its row -/
inductive Rws (K : PySem.W.Frag) (H : Hp) : Bs → List (List V) → Prop
  | nil : Rws K H [] []
  | cons {q : Bool × Addr} {xs : List V} {bs : Bs} {xss : List (List V)} : SqV K H q.1 q.2 xs → Rws K H bs xss → Rws K H (q :: bs) (xs :: xss)
/-- the items at i -/
inductive Col (i : Nat) : List (List V) → List V → Prop
  | nil : Col i [] []
  | cons {xs : List V} {x : V} {xss : List (List V)} {vs : List V} : xs[i]? = some x → Col i xss vs → Col i (xs :: xss) (x :: vs)
theorem Col.len {i : Nat} {xss : List (List V)} {vs : List V} (c : Col i xss vs) : vs.length = xss.length := by
  induction c with
  | nil => rfl
  | cons _ _ ih => rw [List.length_cons, List.length_cons, ih]
theorem Col.of {i : Nat} : ∀ {xss : List (List V)}, (∀ xs ∈ xss, i < xs.length) → ∃ vs, Col i xss vs
  | [], _ => ⟨[], .nil⟩
  | xs :: xss, h => by
    obtain ⟨vs, c⟩ := Col.of fun ys hy => h ys (List.mem_cons_of_mem _ hy)
    exact ⟨xs[i]'(h xs List.mem_cons_self) :: vs, .cons (List.getElem?_eq_getElem _) c⟩
theorem Col.inj {i : Nat} {xss : List (List V)} {vs ws : List V} (c : Col i xss vs) (d : Col i xss ws) : vs = ws := by
  induction c generalizing ws with
  | nil => cases d; rfl
  | cons e c ih =>
    cases d with
    | cons e' d => rw [e] at e'; cases e'; rw [ih d]
/-- the objects behind them -/
theorem rows_get {X : Cx} {pins : List (Addr × Obj)} {σ : L2.St} {H : Hp} {s : Shared} (I : Inv X pins σ H s) {bs : Bs} {xss : List (List V)} (h : Rws X.K H bs xss) :
    ∃ us : List (List Value), us.length = bs.length ∧ Laid s.heap bs (us.map List.toArray) ∧ ∀ (i : Nat) (vs : List V), Col i xss vs → ∃ ws, Vals vs ws ∧ ws.length = bs.length ∧ ∀ (j : Nat) (u : Array Value), (us.map List.toArray)[j]? = some u → u[i]? = ws[j]? := by
  induction h with
  | nil =>
    refine ⟨[], rfl, (fun j q xs h1 => by simp at h1), fun i vs c => ?_⟩
    cases c
    exact ⟨[], .nil, rfl, fun j u h => by simp at h⟩
  | cons a t ih =>
    obtain ⟨us, l1, l2, l3⟩ := ih
    obtain ⟨u, r, k⟩ := SqV.get I a
    refine ⟨u :: us, by rw [List.length_cons, List.length_cons, l1], fun j q xs h1 h2 => ?_, fun i vs c => ?_⟩
    · cases j with
      | zero => cases h1; cases h2; exact k
      | succ j => exact l2 j q xs h1 h2
    · cases c with
      | cons e c =>
        obtain ⟨ws, r1, n1, g⟩ := l3 i _ c
        obtain ⟨y, hy, ry⟩ := r.get e
        refine ⟨y :: ws, .cons ry r1, by rw [List.length_cons, List.length_cons, n1], fun j u' h => ?_⟩
        cases j with
        | zero =>
          cases h
          simpa using hy
        | succ j => exact g j u' h
theorem Rws.inj {X : Cx} {pins : List (Addr × Obj)} {σ : L2.St} {H : Hp} {s : Shared} (I : Inv X pins σ H s) {bs : Bs} {xss yss : List (List V)} (h : Rws X.K H bs xss) (h' : Rws X.K H bs yss) : xss = yss := by
  induction h generalizing yss with
  | nil => cases h'; rfl
  | cons a t ih =>
    cases h' with
    | cons a' t' => rw [SqV.inj I a a', ih t']
/-- the tuples that zip gives out -/
def ItzN (K : PySem.W.Frag) (bs : Bs) : It :=
  ⟨fun i H => ∃ xss, Rws K H bs xss ∧ bs ≠ [] ∧ ∀ xs ∈ xss, i < xs.length,
    fun i H v H' => ∃ T vs, v = .ref T ∧ H T = none ∧ H' = upd H T (.tup vs) ∧ ∀ xss, Rws K H bs xss → Col i xss vs,
    fun i H => bs = [] ∨ ∃ q xs, bs[0]? = some q ∧ SqV K H q.1 q.2 xs ∧ xs.length ≤ i⟩

/-- where the parts of a zip stand -/
structure ZFits (n : Nat) (bs : Bs) : Prop where
  low : ∀ q ∈ bs, (show Nat from q.2) < n
theorem ZFits.apart {n : Nat} {bs : Bs} (F : ZFits n bs) : Apart (n + bs.length + 2) (n + bs.length) (n + bs.length + 1) (srcs n bs) := by
  have each : ∀ q ∈ srcs n bs, ∃ j : Nat, j < bs.length ∧ (show Nat from q.2.1) = n + j ∧ (show Nat from q.2.2) < n := fun q hq => by
    obtain ⟨j, hj⟩ := List.getElem?_of_mem hq
    obtain ⟨b, hb, rfl⟩ := srcs_get.mp hj
    exact ⟨j, (List.getElem?_eq_some_iff.mp hb).1, rfl, F.low b (List.mem_of_getElem? hb)⟩
  have ne : ∀ {a b : Nat}, a ≠ b → (show Addr from a) ≠ b := fun h => h
  refine ⟨ne (by omega), ne (by omega), ne (by omega), fun q hq => ?_, fun q hq => ?_, fun q hq r hr => ?_, ?_⟩
  · obtain ⟨j, h1, h2, h3⟩ := each q hq
    exact ⟨fun e => absurd (h2.symm.trans e) (by omega), fun e => absurd (h2.symm.trans e) (by omega), fun e => absurd (h2.symm.trans e) (by omega)⟩
  · obtain ⟨j, h1, h2, h3⟩ := each q hq
    have lt : ∀ m : Nat, n ≤ m → q.2.2 ≠ m := fun m hm e => by
      have h3' : (show Nat from m) < n := by rw [← show q.2.2 = m from e]; exact h3
      exact absurd h3' (Nat.not_lt.mpr hm)
    exact ⟨lt _ (Nat.le_add_right_of_le (Nat.le_add_right _ _)), lt _ (Nat.le_add_right _ _), lt _ (Nat.le_add_right_of_le (Nat.le_add_right _ _))⟩
  · obtain ⟨j, h1, h2, h3⟩ := each q hq
    obtain ⟨j', h1', h2', h3'⟩ := each r hr
    intro e
    have h4 : (show Nat from r.2.2) = n + j := by rw [← show q.2.1 = r.2.2 from e]; exact h2
    exact absurd h3' (by rw [h4]; exact Nat.not_lt.mpr (Nat.le_add_right _ _))
  · refine List.pairwise_iff_getElem.mpr fun i j hi hj lt e => ?_
    have get : ∀ k (h : k < ((srcs n bs).map (·.2.1)).length), ((srcs n bs).map (·.2.1))[k] = n + k := fun k h => by
      have hk : k < (srcs n bs).length := by rw [List.length_map] at h; exact h
      obtain ⟨b, hb, e⟩ := srcs_get.mp (List.getElem?_eq_getElem hk)
      rw [List.getElem_map, e]
    rw [get, get] at e
    exact absurd (Nat.add_left_cancel e) (Nat.ne_of_lt lt)
/-- its own objects -/
def zfp (n : Nat) (bs : Bs) : List Addr := (n + bs.length + 2) :: (n + bs.length) :: (n + bs.length + 1) :: (srcs n bs).map (·.2.1)
/-- how they stand at turn i -/
def ztn (n : Nat) (bs : Bs) (i : Nat) (h : Heap) : Prop := (∃ f0 f1, Own f0 ∧ IsZipN h (n + bs.length + 2) (n + bs.length) (n + bs.length + 1) f0 f1) ∧ IsTupN h (n + bs.length) ((srcs n bs).map fun q => .ref q.2.1) ∧
  (∃ os, os.length = (srcs n bs).length ∧ IsTupN h (n + bs.length + 1) os) ∧ ∀ q ∈ srcs n bs, ItK q.1 h q.2.1 q.2.2 i
theorem ztn_obj {n : Nat} {bs : Bs} {i : Nat} {h : Heap} (st : ztn n bs i h) : ∀ c ∈ zfp n bs, ∃ o, h.get? c = some o ∧ ∀ v, o.data ≠ .cell v := fun c hc => by
  obtain ⟨⟨f0, f1, _, iz⟩, t1, ⟨os, _, t2⟩, its⟩ := st
  have hc : c = n + bs.length + 2 ∨ c = n + bs.length ∨ c = n + bs.length + 1 ∨ ∃ q ∈ srcs n bs, q.2.1 = c := by
    simpa only [zfp, List.mem_cons, List.mem_map] using hc
  rcases hc with rfl | rfl | rfl | ⟨q, hq, rfl⟩
  · exact ⟨_, iz, fun v q => nomatch q⟩
  · exact ⟨_, t1, fun v q => nomatch q⟩
  · exact ⟨_, t2, fun v q => nomatch q⟩
  · obtain ⟨o, e, _, d⟩ := (its q hq).obj
    exact ⟨o, e, d⟩
theorem zat {n : Nat} {bs : Bs} {i : Nat} {h : Heap} {xss : List (Array Value)} (a : ∀ q ∈ srcs n bs, ItK q.1 h q.2.1 q.2.2 i) (l : Laid h bs xss) : At h i (srcs n bs) xss := fun j q xs h1 h2 => by
  refine ⟨a q (List.mem_of_getElem? h1), ?_⟩
  obtain ⟨b, hb, rfl⟩ := srcs_get.mp h1
  exact l j b xs hb h2
theorem rws_len {K : PySem.W.Frag} {H : Hp} {bs : Bs} {xss : List (List V)} (h : Rws K H bs xss) : xss.length = bs.length := by
  induction h with
  | nil => rfl
  | cons _ _ ih => rw [List.length_cons, List.length_cons, ih]
theorem turn_zipN {P : Program} {w : World} {K : PySem.W.Frag} {tg : Expr} {n : Nat} {bs : Bs} (F : ZFits n bs) (hz : bs.length ≤ 12) : Turn P w K tg (ItzN K bs) (zfp n bs) (n + bs.length + 2) (ztn n bs) where
  mem := List.mem_cons_self
  obj := fun i h st => ztn_obj st
  keep := fun i h h' st k => by
    obtain ⟨⟨f0, f1, of, iz⟩, t1, ⟨os, ol, t2⟩, its⟩ := st
    exact ⟨⟨f0, f1, of, k _ (by simp [zfp]) _ iz⟩, k _ (by simp [zfp]) _ t1, ⟨os, ol, k _ (by simp [zfp]) _ t2⟩, fun q hq => (its q hq).at fun o e => k _ (by
      simp only [zfp, List.mem_cons, List.mem_map]
      exact .inr (.inr (.inr ⟨q, hq, rfl⟩))) o e⟩
  item := by
    intro X hP hw hK hc i pins s σ H E I hf st hg
    subst hP hw hK
    have ob := ztn_obj st
    obtain ⟨⟨f0, f1, of, iz⟩, t1, ⟨os, ol, t2⟩, its⟩ := st
    obtain ⟨xss, rw_, hne, hlt⟩ := hg
    obtain ⟨us, lu, la, cu⟩ := rows_get I rw_
    obtain ⟨vs, cv⟩ := Col.of hlt
    obtain ⟨ws, rv, lw, cw⟩ := cu i vs cv
    have sl := srcs_len (n := n) (bs := bs)
    have s12 : 12 ≤ sizeLine := by decide
    have hne' : srcs n bs ≠ [] := fun e => hne (List.eq_nil_of_length_eq_zero (by rw [← sl, e]; rfl))
    have hzl : n + bs.length + 2 < s.heap.objs.size := Heap.lt_size iz
    refine next_zip F.apart hne' (by rw [List.length_map, lu, sl]) (by rw [lw, sl]) (by rw [sl]; omega) of iz t1 t2 ol (zat its la) cw fun h' af => ?_
    obtain ⟨⟨g0, g1, og, iz'⟩, ⟨os', ol', t2'⟩, at', tn', sz', rest⟩ := af
    refine ⟨_, rfl, go_zip (s := { s with heap := h' }) og iz' fun h'' g0' og' iz'' sb => ?_⟩
    have away : ∀ c o, c ∉ zfp n bs → s.heap.get? c = some o → h''.get? c = some o := fun c o hc e => by
      have hc : ¬ (c = n + bs.length + 2 ∨ c = n + bs.length ∨ c = n + bs.length + 1 ∨ ∃ q ∈ srcs n bs, q.2.1 = c) := by
        simpa only [zfp, List.mem_cons, List.mem_map] using hc
      exact (sb.2 c fun x => hc (.inl x)).trans (rest c o (fun x => hc (.inl x)) (fun x => hc (.inr (.inr (.inl x)))) (fun q hq x => hc (.inr (.inr (.inr ⟨q, hq, x.symm⟩)))) e)
    have hT2 : h''.get? s.heap.objs.size = some { cls := .type "tuple", data := .seq ws.toArray } := (sb.2 _ (Nat.ne_of_gt hzl)).trans tn'
    have lvs : vs.length = bs.length := by rw [cv.len, rws_len rw_]
    have new : ObjOk X.prog X.w (upd H s.heap.objs.size (.tup vs)) h'' s.heap.objs.size (.tup vs) := ⟨by show vs.length ≤ sizeLine; omega, ws, rv, ⟨_, hT2, rfl, _, rfl⟩⟩
    have I1 : Inv X pins σ (upd H s.heap.objs.size (.tup vs)) { s with heap := h'' } := I.turnedNew (t' := s.toks) (ch := zfp n bs) (fun c o hb q => away c o hb q) hf (Nat.le_refl _) new
    refine ⟨.ref s.heap.objs.size, _, I1, rfl, ⟨_, vs, rfl, I.hok.fresh (Nat.le_refl _), rfl, fun yss hy => by rw [Rws.inj I hy rw_]; exact cv⟩, ⟨⟨g0', g1, og', iz''⟩, (sb.2 _ F.apart.TIz).trans (rest _ _ F.apart.TIz F.apart.TITO (fun q hq x => (F.apart.iz q hq).2.1 x.symm) t1), ⟨os', ol', (sb.2 _ F.apart.TOz).trans t2'⟩, fun q hq => ?_⟩, fun c hcm => ?_⟩
    · obtain ⟨j, hj⟩ := List.getElem?_of_mem hq
      have jl : j < bs.length := by rw [← sl]; exact (List.getElem?_eq_some_iff.mp hj).1
      have z := (at' j q _ hj (List.getElem?_eq_getElem (by rw [List.length_map, lu]; exact jl))).1
      exact z.at fun o e => (sb.2 _ (F.apart.iz q hq).1).trans e
    · obtain ⟨o, e, _⟩ := ob c hcm
      rw [upd_ne (Nat.ne_of_lt (Heap.lt_size e))]
      exact (hf c hcm).1
  done := by
    intro X hP hw hK hc i pins s σ H E I hf st hg
    subst hP hw hK
    obtain ⟨⟨f0, f1, of, iz⟩, t1, ⟨os, ol, t2⟩, its⟩ := st
    have out : Out s.heap i (srcs n bs) := by
      rcases hg with rfl | ⟨q, xs, hq, sv, hl⟩
      · exact .inl rfl
      · obtain ⟨us, r, k⟩ := SqV.get I sv
        have e : (srcs n bs)[0]? = some (q.1, n + 0, q.2) := srcs_get.mpr ⟨q, hq, rfl⟩
        exact .inr ⟨_, us.toArray, e, its _ (List.mem_of_getElem? e), k, by simpa using (by rw [← r.length]; exact hl : us.length ≤ i)⟩
    exact next_zip_end (I.ok.hd hc) F.apart of iz t1 t2 ol out fun h' rest => ⟨rfl, I.turnedL (t' := s.toks) (ch := zfp n bs) (fun c o hb q => by
      have hb : ¬ (c = n + bs.length + 2 ∨ c = n + bs.length ∨ c = n + bs.length + 1 ∨ ∃ q ∈ srcs n bs, q.2.1 = c) := by
        simpa only [zfp, List.mem_cons, List.mem_map] using hb
      exact rest c o (fun x => hb (.inl x)) (fun x => hb (.inr (.inr (.inl x)))) (fun q hq x => hb (.inr (.inr (.inr ⟨q, hq, x.symm⟩)))) q) hf⟩
  self := fun A i s Q E st h => by
    obtain ⟨⟨f0, f1, _, iz⟩, _⟩ := st
    exact self_zip iz h

def iZipS (K : PySem.W.Frag) (te : TE) : TI := fun σ H R => te σ H fun y H1 => ∃ (a : Addr) (bs : Bs) (xss : List (List V)), y = V.ref a ∧ (SqT K H1 a (bs.map fun q => V.ref q.2) ∨ SqL K H1 a (bs.map fun q => V.ref q.2)) ∧ bs.length ≤ 12 ∧ Rws K H1 bs xss ∧ R (ItzN K bs) H1
def iZipP (K : PySem.W.Frag) (ta : TA) : TI := fun σ H R => ta σ H fun vs H1 => ∃ (p q : Bool × Addr) (xs ys : List V), vs = [V.ref p.2, V.ref q.2] ∧ SqV K H1 p.1 p.2 xs ∧ SqV K H1 q.1 q.2 ys ∧ R (ItzN K [p, q]) H1
theorem vals_refs : ∀ {bs : Bs} {us : List Value}, Vals (bs.map fun q => V.ref q.2) us → us = bs.map fun q => Value.ref q.2
  | [], _, .nil => rfl
  | q :: bs, _, .cons r t => by
    cases r
    rw [vals_refs t]
    rfl
section
variable {X : Cx} {pins : List (Addr × Obj)} {σ : L2.St} {H : Hp} {s : Shared}
/-- the zip is made and asked for its iterator -/
theorem zip_made {tg : Expr} {bs : Bs} {xss : List (List V)} {R : It → Hp → Prop} (I : Inv X pins σ H s) (hz : bs.length ≤ 12) (rw_ : Rws X.K H bs xss) (q : R (ItzN X.K bs) H) :
    wpAny (model X.prog X.w) X.A (call (.type "zip") (bs.map fun q => Value.ref q.2)) (fun v s1 => wpAny (model X.prog X.w) X.A (pyIter v) (PIE X pins σ tg R) X.xe s1) X.xe s := by
  obtain ⟨us, lu, la, _⟩ := rows_get I rw_
  have F : ZFits s.heap.objs.size bs := ⟨fun q hq => by
    obtain ⟨j, hj⟩ := List.getElem?_of_mem hq
    have jl := (List.getElem?_eq_some_iff.mp hj).1
    obtain ⟨o, ho, _⟩ := (la j q _ hj (List.getElem?_eq_getElem (by rw [List.length_map, lu]; exact jl))).obj
    exact Heap.lt_size ho⟩
  refine call_zipN (xss := us.map List.toArray) (by rw [List.length_map, lu]) hz la fun h' k sz at' t1 t2 iz => self_zip (s := { s with heap := h' }) iz ?_
  have sl := srcs_len (n := s.heap.objs.size) (bs := bs)
  refine ⟨_, zfp s.heap.objs.size bs, ztn s.heap.objs.size bs, _, H, rfl, I.kept (t' := s.toks) k, turn_zipN F hz, ⟨⟨_, _, .inl rfl, iz⟩, t1, ⟨_, by rw [List.length_map], t2⟩, fun q hq => ?_⟩, fun c hc => ?_, q⟩
  · obtain ⟨j, hj⟩ := List.getElem?_of_mem hq
    have jl : j < bs.length := by rw [← sl]; exact (List.getElem?_eq_some_iff.mp hj).1
    exact (at' j q _ hj (List.getElem?_eq_getElem (by rw [List.length_map, lu]; exact jl))).1
  · have hc : c = s.heap.objs.size + bs.length + 2 ∨ c = s.heap.objs.size + bs.length ∨ c = s.heap.objs.size + bs.length + 1 ∨ ∃ q ∈ srcs s.heap.objs.size bs, q.2.1 = c := by
      simpa only [zfp, List.mem_cons, List.mem_map] using hc
    have hle : s.heap.objs.size ≤ c := by
      rcases hc with rfl | rfl | rfl | ⟨q, hq, rfl⟩
      · exact Nat.le_add_right_of_le (Nat.le_add_right _ _)
      · exact Nat.le_add_right _ _
      · exact Nat.le_add_right_of_le (Nat.le_add_right _ _)
      · obtain ⟨j, hj⟩ := List.getElem?_of_mem hq
        obtain ⟨b, _, rfl⟩ := srcs_get.mp hj
        exact Nat.le_add_right _ _
    exact I.fpOk hle (I.hok.fresh hle)
/-- zip(*e): any number of lists and tuples -/
theorem pi_zipS {tg e : Expr} {te : TE} {p sp pos : Pos} (hg : Gl X "zip") (hm : X.mg "zip" = none) (he : PE X e te) (hst : starEach [.Starred e sp] X.env = [(true, eval e X.env)] := by rfl) :
    PI X tg (.Call (.Name "zip" p) [.Starred e sp] [] pos) (iZipS X.K te) := by
  refine ⟨fun pins s σ H R I h => ?_⟩
  refine Call_ (ld_blt I hg hm PyProof.Rows.boot_zip ?_)
  rw [hst]
  refine PySem.W.ks_call (P := fun _ => True) rfl (fun h _ => ⟨.machine, .inr (.inl rfl), PySem.W.Looks.of_pure rfl⟩) (PySem.W.ks_lone (thn (he.run pins s σ H _ I h) fun v s1 ⟨y, H1, I1, ry, a, bs, xss, ey, hx, hz, rw_, q⟩ => ?_))
  subst ey
  obtain rfl : v = Value.ref a := ry
  refine StX.star_any I1 hx fun us s2 I2 rv => ⟨trivial, ?_⟩
  rw [vals_refs rv]
  exact zip_made I2 hz rw_ q
/-- zip(e, e2): each a list or a tuple -/
theorem pi_zipP {tg e e2 : Expr} {ta : TA} {p pos : Pos} (hg : Gl X "zip") (hm : X.mg "zip" = none) (ha : PA X [e, e2] ta)
    (hs : starEach [e, e2] X.env = (false, eval e X.env) :: starEach [e2] X.env := by rfl) (hpl : (backTo pos (starEach [e2] X.env)).any (·.1) = false := by rfl) :
    PI X tg (.Call (.Name "zip" p) [e, e2] [] pos) (iZipP X.K ta) := by
  refine ⟨fun pins s σ H R I h => ?_⟩
  refine Call_ (ld_blt I hg hm PyProof.Rows.boot_zip (PyProof.Rows.callWith_type1 (thn (ha.run pos pins s σ H _ I h) fun us s1 ⟨vs, H1, I1, r1, p, q, xs, ys, ev, h1, h2, qq⟩ => ?_) hs hpl))
  subst ev
  have e := vals_refs (bs := [p, q]) r1
  subst e
  exact zip_made I1 (show 2 ≤ 12 by decide) (.cons h1 (.cons h2 .nil)) qq
end
end Zn

/-! min(xs, default=d) of a list of ints -/
namespace Zn
open PySem PySem.Spec PyProof.Rows L2
section
variable {prog : Program} {w : World} {A : Around} {s : Shared} {R : Result → Shared → Prop} {l it bst : Addr} {its : Array Value} {val : Nat → Int}
theorem minD_loop (kw : List (Str × Value)) (hv : ∀ (i : Nat) (v : Value), its[i]? = some v → ∃ t, v = Value.int (val i) t) (hh : A.in1.handled = none) (hli : l ≠ it) (hbi : bst ≠ it) (hbl : bst ≠ l) :
    ∀ (r j b : Nat) (s : Shared) (vb : Value) (c : Nat), its.size - j = r → j ≤ its.size → s.heap.IsListIter it l j → s.heap.IsList l its → its[b]? = some vb → b < j → (∀ i, i < j → val b ≤ val i) →
      s.heap.get? bst = some { cls := .type "list", dict := none, data := .seq #[vb, vb] c, slots := #[] } →
      (∀ v h' tk b, its[b]? = some v → (∀ i, i < its.size → val b ≤ val i) → (∀ x o, x ≠ it → x ≠ bst → s.heap.get? x = some o → h'.get? x = some o) → R (.ok (.ret v)) { s with heap := h', toks := tk }) →
      codeAny (model prog w) A (.builtin "min.loop" ⟨[.ref it, .none, .ref bst], kw⟩) R s := by
  have word : (toString "min" ++ toString ".loop" : String) = "min.loop" := by decide
  have W := Walks.list (prog := prog) (w := w) (A := A.in1) hh it l hli its
  intro r
  induction r with
  | zero =>
    intro j b s vb c hr hj i1 i2 hb hbj least hS fin
    have ej : j = its.size := by omega
    subst ej
    refine codeAny_builtin PySem.F.entry_min_loop ?_
    rw [Around.under_plainId PySem.F.plain_min_loop _]
    show wpAny _ A.in1 (seqItems? (.ref bst) >>= _) _ _ _
    refine wpAny_bind (wpAny_seqItems hS rfl (?_ : wpAny _ A.in1 (tryCatch (pyNext (.ref it)) _ >>= _) _ _ _))
    refine wpAny_bind (wpAny_tryCatch (W.done s _ _ ⟨i1, i2⟩ fun h' tk kept => ?_))
    have hS2 := kept bst _ (by simpa using hbi) hS
    refine (?_ : wpAny _ A.in1 (updateSeq bst (fun _ => #[]) >>= _) _ _ _)
    refine wpAny_bind (wpAny_updateSeq hS2 rfl (wpAny_bind (wpAny_letGo (wpAny_pure (fin vb _ tk b hb least fun x o x1 x2 e => ?_)))))
    exact (Heap.get?_update_other _ _ (Ne.symm x2)).trans (kept x o (by simpa using x1) e)
  | succ r ih =>
    intro j b s vb c hr hj i1 i2 hb hbj least hS fin
    have lt : j < its.size := by omega
    refine codeAny_builtin PySem.F.entry_min_loop ?_
    rw [Around.under_plainId PySem.F.plain_min_loop _]
    show wpAny _ A.in1 (seqItems? (.ref bst) >>= _) _ _ _
    refine wpAny_bind (wpAny_seqItems hS rfl (?_ : wpAny _ A.in1 (tryCatch (pyNext (.ref it)) _ >>= _) _ _ _))
    refine wpAny_bind (wpAny_tryCatch (W.item j s _ _ lt ⟨i1, i2⟩ fun v h' tk hP st kept => ?_))
    have hS2 := kept bst _ (by simpa using hbi) hS
    obtain ⟨t1, e1⟩ := hv j v hP
    obtain ⟨t2, e2⟩ := hv b vb hb
    refine (?_ : wpAny _ A.in1 (tryCatch (holding [v, v] (richCompare .Lt v vb >>= _)) _ >>= _) _ _ _)
    refine wpAny_bind (wpAny_tryCatch (wpAny_holding (wpAny_bind (CmpOf.ints_lt (prog := prog) (w := w) (A := A.in1) (P := fun i v => ∃ t, v = Value.int (val i) t) val (fun i v h => h) j b v vb _ _ _ ⟨t1, e1⟩ ⟨t2, e2⟩ (wpAny_bind (wpAny_holding (wpAny_truthy_bool ?_)))))))
    refine wpAny_bind (wpAny_letGo (wpAny_pure ?_))
    by_cases q : (val j < val b)
    · simp only [decide_eq_true q, if_true]
      refine wpAny_bind (wpAny_updateSeq hS2 rfl (wpAny_bind (wpAny_letGo ?_)))
      rw [word]
      have sb := Heap.SameBut.update h' bst (Obj.mapSeq fun _ => #[v, v])
      refine wpAny_pure ⟨plainId_quiet PySem.F.plain_min_loop _, ih (j + 1) j _ v _ (by omega) lt (st.1.extBut sb.extBut hbi.symm) (st.2.extBut sb.extBut hbl.symm) hP (Nat.lt_succ_self _) (fun i hi => ?_) (Heap.get?_update_self _ hS2 rfl) fun v' h2 tk2 b' g1 g2 g3 => ?_⟩
      · by_cases c : (i = j)
        · rw [c]
          exact Int.le_refl _
        · exact Int.le_of_lt (Int.lt_of_lt_of_le q (least i (by omega)))
      · exact fin v' h2 tk2 b' g1 g2 fun x o x1 x2 e => g3 x o x1 x2 ((sb.2 x x2).trans (kept x o (by simpa using x1) e))
    · simp only [decide_eq_false q, Bool.false_eq_true, if_false]
      refine wpAny_bind (wpAny_letGo ?_)
      rw [word]
      refine wpAny_pure ⟨plainId_quiet PySem.F.plain_min_loop _, ih (j + 1) b _ vb c (by omega) lt st.1 st.2 hb (by omega) (fun i hi => ?_) hS2 fun v' h2 tk2 b' g1 g2 g3 => ?_⟩
      · by_cases c : (i = j)
        · rw [c]
          exact Int.not_lt.mp q
        · exact least i (by omega)
      · exact fin v' h2 tk2 b' g1 g2 fun x o x1 x2 e => g3 x o x1 x2 (kept x o (by simpa using x1) e)
end
theorem ints_at {its : List Value} {ns : List Int} (hi : IntsAre its ns) : ∀ (i : Nat) (v : Value), its[i]? = some v → ∃ t, v = Value.int (ns.getD i 0) t := by
  induction hi with
  | nil => exact fun i v e => by simp at e
  | cons n t r ih =>
    intro i v e
    cases i with
    | zero =>
      cases e
      exact ⟨t, rfl⟩
    | succ i => exact ih i v e
theorem minD_args (a v : Value) : argsOk "min" ⟨[a], [(Str.ofString "default", v)]⟩ := by unfold argsOk; kernel_rfl
section
variable {prog : Program} {w : World} {A : Around} {E : Value → Shared → Prop} {s : Shared}
theorem minD_raw {l : Addr} {its : List Value} {ns : List Int} {d : Value} {Q : Value → Shared → Prop} (hh : A.handled = none) (hl : s.heap.IsList l its.toArray) (hi : IntsAre its ns)
    (h0 : ∀ h' tk, (∀ b o, s.heap.get? b = some o → h'.get? b = some o) → ns = [] → Q d { s with heap := h', toks := tk })
    (h1 : ∀ h' tk m t', (∀ b o, s.heap.get? b = some o → h'.get? b = some o) → m ∈ ns → (∀ a ∈ ns, m ≤ a) → Q (.int m t') { s with heap := h', toks := tk }) :
    wpAny (model prog w) A (call (.builtin "min") [.ref l] [("default", d)]) Q E s := by
  have word : (toString "min" ++ toString ".loop" : String) = "min.loop" := by decide
  refine kmb_tree PySem.F.kind_min PySem.F.plain_min PySem.F.entry_min (minD_args _ _) ?_
  show wpAny _ A.in1 (Builtin.Builtins.bindParams "min" ["key", "default"] 0 ⟨[], [("default", d)]⟩ >>= _) _ _ s
  refine wpAny_bind (wpAny_of_eq (show Builtin.Builtins.bindParams "min" ["key", "default"] 0 ⟨[], [("default", d)]⟩ = pure [none, some d] from rfl) ?_)
  refine wpAny_bind (wpAny_pure ?_)
  refine wpAny_bind (wpAny_pyIter_list hl ?_)
  refine wpAny_bind (wpAny_newObj_type ?_)
  rw [word]
  have e1 : its = [] ∨ 0 < its.length := by
    cases its with
    | nil => exact .inl rfl
    | cons a l => exact .inr (Nat.succ_pos _)
  have it1 : (s.heap.push { cls := .type "list_iterator", data := .fields #[.ref l, .int 0 0] }).objs.size = s.heap.objs.size + 1 := Heap.size_push ..
  have nS : ∀ {o : Obj}, o.isFreed = false → (((s.heap.push { cls := .type "list_iterator", data := .fields #[.ref l, .int 0 0] }).push o).get? (s.heap.objs.size + 1)) = some o := fun hf => by
    rw [← it1]
    exact Heap.get?_push_size _ hf
  have nI : ∀ {o : Obj}, ((s.heap.push { cls := .type "list_iterator", data := .fields #[.ref l, .int 0 0] }).push o).IsListIter s.heap.objs.size l 0 := ⟨_, Heap.get?_push_of_some _ (Heap.get?_push_size _ rfl), rfl, rfl⟩
  have nL : ∀ {o : Obj}, ((s.heap.push { cls := .type "list_iterator", data := .fields #[.ref l, .int 0 0] }).push o).IsList l its.toArray := (hl.push _).push _
  have ll : l < s.heap.objs.size := by
    obtain ⟨o, ho, _⟩ := hl
    exact Heap.lt_size ho
  have hv : ∀ (i : Nat) (v : Value), its.toArray[i]? = some v → ∃ t, v = Value.int (ns.getD i 0) t := fun i v e => ints_at hi i v (by simpa using e)
  have hlen : its.length = ns.length := hi.length
  have W := Walks.list (prog := prog) (w := w) (A := A.in1) hh s.heap.objs.size l (Nat.ne_of_lt ll) its.toArray
  refine wpAny_pure ⟨plainId_quiet PySem.F.plain_min_loop _, ?_⟩
  refine codeAny_builtin PySem.F.entry_min_loop ?_
  rw [Around.under_plainId PySem.F.plain_min_loop _]
  show wpAny _ A.in1 (seqItems? (.ref _) >>= _) _ _ _
  rw [it1]
  refine wpAny_bind (wpAny_seqItems (nS rfl) rfl (?_ : wpAny _ A.in1 (tryCatch (pyNext (.ref s.heap.objs.size)) _ >>= _) _ _ _))
  rcases e1 with e0 | e1
  · refine wpAny_bind (wpAny_tryCatch (W.done _ _ _ ⟨by rw [e0]; exact nI, nL⟩ fun h' tk kept => ?_))
    refine wpAny_bind (wpAny_rule (wpAny_pure ?_))
    have n0 : ns = [] := List.eq_nil_of_length_eq_zero (by rw [← hlen, e0]; rfl)
    exact h0 h' tk (fun b o e => kept b o (by simpa using Nat.ne_of_lt (Heap.lt_size e)) (Heap.get?_push_of_some _ (Heap.get?_push_of_some _ e))) n0
  · refine wpAny_bind (wpAny_tryCatch (W.item 0 _ _ _ (by simpa using e1) ⟨nI, nL⟩ fun v h' tk hP st kept => ?_))
    have hS2 := kept (s.heap.objs.size + 1) _ (by simp) (nS rfl)
    refine (?_ : wpAny _ A.in1 (updateSeq (s.heap.objs.size + 1) (fun _ => #[v, v]) >>= _) _ _ _)
    refine wpAny_bind (wpAny_updateSeq hS2 rfl ?_)
    rw [word]
    have sb := Heap.SameBut.update h' (s.heap.objs.size + 1) (Obj.mapSeq fun _ => #[v, v])
    have n1 : s.heap.objs.size ≠ s.heap.objs.size + 1 := Nat.ne_of_lt (Nat.lt_succ_self _)
    have n2 : l ≠ s.heap.objs.size + 1 := Nat.ne_of_lt (Nat.lt_succ_of_lt ll)
    refine wpAny_pure ⟨plainId_quiet PySem.F.plain_min_loop _, minD_loop _ hv hh (Nat.ne_of_lt ll) n1.symm n2.symm _ 1 0 _ v _ rfl (by simpa using Nat.succ_le_of_lt e1) (st.1.extBut sb.extBut n1) (st.2.extBut sb.extBut n2) hP Nat.one_pos (fun i hi => ?_) (Heap.get?_update_self _ hS2 rfl) fun v' h2 tk2 b' g1 g2 g3 => ?_⟩
    · have : i = 0 := by omega
      rw [this]
      exact Int.le_refl _
    · obtain ⟨t, rfl⟩ := hv b' v' g1
      have bl : b' < ns.length := by
        have := (Array.getElem?_eq_some_iff.mp g1).1
        simpa [hlen] using this
      refine h1 h2 tk2 _ t (fun b o e => ?_) ?_ fun a ha => ?_
      · have lt := Heap.lt_size e
        exact g3 b o (Nat.ne_of_lt lt) (Nat.ne_of_lt (Nat.lt_succ_of_lt lt)) ((sb.2 b (Nat.ne_of_lt (Nat.lt_succ_of_lt lt))).trans (kept b o (by simpa using Nat.ne_of_lt lt) (Heap.get?_push_of_some _ (Heap.get?_push_of_some _ e))))
      · rw [List.getD_eq_getElem?_getD, List.getElem?_eq_getElem bl]
        exact List.getElem_mem bl
      · obtain ⟨j, hj, rfl⟩ := List.getElem_of_mem ha
        have := g2 j (by simpa [hlen] using hj)
        rw [show ns.getD j 0 = ns[j] by rw [List.getD_eq_getElem?_getD, List.getElem?_eq_getElem hj] <;> rfl] at this
        exact this
end
/-- min(xs, default=d) -/
def rMinD (K : PySem.W.Frag) : List V → List V → Hp → VK → Prop := fun vs zs H Q => ∃ (a : Addr) (ns : List Int) (d : V), vs = [V.ref a] ∧ zs = [d] ∧ SqL K H a (ns.map V.int) ∧ (ns = [] → Q d H) ∧ ∀ m, m ∈ ns → (∀ y, y ∈ ns → m ≤ y) → Q (.int m) H
theorem cr_minD {X : Cx} (hc : X.calm = true) : CallRK X (.builtin "min") ["default"] (rMinD X.K) := by
  intro pins s σ H xs zs us ws Q I r1 r2 h
  obtain ⟨a, ns, d, rfl, rfl, hs, q0, q1⟩ := h
  obtain ⟨its, rv, hl, _⟩ := I.list hs
  rw [Vals.ref1 r1]
  cases r2 with
  | cons rd t =>
    cases t
    exact minD_raw (I.ok.hd hc) hl.isList rv.ints (fun h' tk k e => ⟨d, H, I.kept k, rd, q0 e⟩) fun h' tk m t' k m1 m2 => ⟨.int m, H, I.kept k, ⟨_, rfl⟩, q1 m m1 m2⟩
end Zn

/-! matrices in the heap: lists or tuples of lists or tuples -/
namespace KM
open PySem PySem.Spec PyProof.Rows L2 Gd Zn
/-- a list (true) or a tuple (false) -/
def so (b : Bool) (xs : List V) : HO := if b then .lst xs else .tup xs
theorem so_sq {K : PySem.W.Frag} {H : Hp} {b : Bool} {p : Addr} {xs : List V} (h : H p = some (so b xs)) : SqV K H b p xs := by
  cases b
  · exact SqT.of h
  · exact SqL.of h
theorem so_any {K : PySem.W.Frag} {H : Hp} {b : Bool} {p : Addr} {xs : List V} (h : H p = some (so b xs)) : SqL K H p xs ∨ SqT K H p xs := by
  cases b
  · exact .inr (SqT.of h)
  · exact .inl (SqL.of h)
theorem so_kind {H : Hp} {b : Bool} {p : Addr} {xs : List V} (h : H p = some (so b xs)) : Pv H (.ref p) ∧ (inst "list" (kind H (.ref p)) || inst "tuple" (kind H (.ref p))) = true := by
  cases b
  · have e : kind H (.ref p) = .tup := by show kindO (H p) = _; rw [h]; rfl
    rw [Pv, e]
    exact ⟨by decide, by decide⟩
  · have e : kind H (.ref p) = .lst := by show kindO (H p) = _; rw [h]; rfl
    rw [Pv, e]
    exact ⟨by decide, by decide⟩
/-- what is walked -/
def ItV (K : PySem.W.Frag) (b : Bool) (a : Addr) : It := if b then Itl K a else Itt K a
def iSq (K : PySem.W.Frag) (te : TE) : TI := fun σ H R => te σ H fun x H1 => ∃ b a xs, x = V.ref a ∧ SqV K H1 b a xs ∧ R (ItV K b a) H1
theorem pi_sq {X : Cx} {tg e : Expr} {te : TE} (he : PE X e te) : PI X tg e (iSq X.K te) := by
  refine ⟨fun pins s σ H R I h => thn (he.run pins s σ H _ I h) fun v s1 ⟨x, H1, I1, r1, b, a, xs, ex, hq, q⟩ => ?_⟩
  subst ex
  obtain rfl : v = Value.ref a := r1
  have fp : ∀ c ∈ [s1.heap.objs.size], FpOk X pins H1 c := fun c hc => by
    obtain rfl : c = s1.heap.objs.size := by simpa using hc
    exact I1.fpOk (Nat.le_refl _) (I1.hok.fresh (Nat.le_refl _))
  cases b with
  | false =>
    obtain ⟨its, rv, pl, hz⟩ := I1.tuple hq
    exact wpAny_pyIter_tuple (show s1.heap.IsTuple a its.toArray from pl) ⟨_, [_], _, _, H1, rfl, I1.kept (t' := s1.toks) fun b o e => Heap.get?_push_of_some _ e, turn_tuple a _, ⟨_, Heap.get?_push_size _ rfl, rfl, rfl⟩, fp, q⟩
  | true =>
    obtain ⟨its, rv, pl, hz⟩ := I1.list hq
    exact wpAny_pyIter_list pl.isList ⟨_, [_], _, _, H1, rfl, I1.kept (t' := s1.toks) fun b o e => Heap.get?_push_of_some _ e, turn_list a _, ⟨_, Heap.get?_push_size _ rfl, rfl, rfl⟩, fp, q⟩
theorem walk_sq {K : PySem.W.Frag} {b : Bool} {a : Addr} {xs : List V} : Walk (ItV K b a) xs.length (fun H => SqV K H b a xs) (YAt xs) := by
  cases b
  · exact walk_tup
  · exact walk_list
/-- rows at their places -/
inductive RwAt (H : Hp) : Bs → List (List V) → Prop
  | nil : RwAt H [] []
  | cons {q : Bool × Addr} {xs : List V} {bs : Bs} {xss : List (List V)} : H q.2 = some (so q.1 xs) → RwAt H bs xss → RwAt H (q :: bs) (xs :: xss)
theorem RwAt.same {H H' : Hp} (s : Same H H') {bs : Bs} {xss : List (List V)} (h : RwAt H bs xss) : RwAt H' bs xss := by
  induction h with
  | nil => exact .nil
  | cons a _ ih => exact .cons (s _ _ a) ih
theorem RwAt.len {H : Hp} {bs : Bs} {xss : List (List V)} (h : RwAt H bs xss) : bs.length = xss.length := by
  induction h with
  | nil => rfl
  | cons _ _ ih => rw [List.length_cons, List.length_cons, ih]
theorem RwAt.rws {K : PySem.W.Frag} {H : Hp} {bs : Bs} {xss : List (List V)} (h : RwAt H bs xss) : Rws K H bs xss := by
  induction h with
  | nil => exact .nil
  | cons a _ ih => exact .cons (so_sq a) ih
theorem RwAt.get {H : Hp} {bs : Bs} {xss : List (List V)} (h : RwAt H bs xss) : ∀ {i : Nat} {x : V}, (bs.map fun q => V.ref q.2)[i]? = some x → ∃ b p xs, x = .ref p ∧ xss[i]? = some xs ∧ H p = some (so b xs) := by
  induction h with
  | nil => exact fun e => by simp at e
  | @cons q xs bs xss a _ ih =>
    intro i x e
    cases i with
    | zero =>
      cases e
      exact ⟨q.1, q.2, xs, rfl, rfl, a⟩
    | succ i => exact ih e
/-- a matrix -/
def MAt (H : Hp) (x : V) (xss : List (List V)) : Prop := ∃ b p bs, x = V.ref p ∧ H p = some (so b (bs.map fun q => V.ref q.2)) ∧ RwAt H bs xss
theorem MAt.same {H H' : Hp} {x : V} {xss : List (List V)} (s : Same H H') : MAt H x xss → MAt H' x xss
  | ⟨b, p, bs, e, h, r⟩ => ⟨b, p, bs, e, s _ _ h, r.same s⟩
theorem MAt.on {H H' : Hp} {x : V} {xss : List (List V)} (h : MAt H x xss) (s : Same H H') : MAt H' x xss := h.same s
/-- n rows of n items -/
def Sqr (n : Nat) (xss : List (List V)) : Prop := xss.length = n ∧ ∀ xs ∈ xss, xs.length = n
/-- lists at their places -/
inductive LsAt (H : Hp) : List Addr → List (List V) → Prop
  | nil : LsAt H [] []
  | cons {p : Addr} {xs : List V} {ps : List Addr} {xss : List (List V)} : H p = some (.lst xs) → LsAt H ps xss → LsAt H (p :: ps) (xs :: xss)
theorem LsAt.same {H H' : Hp} (s : Same H H') {ps : List Addr} {xss : List (List V)} (h : LsAt H ps xss) : LsAt H' ps xss := by
  induction h with
  | nil => exact .nil
  | cons a _ ih => exact .cons (s _ _ a) ih
theorem LsAt.on {H H' : Hp} {ps : List Addr} {xss : List (List V)} (h : LsAt H ps xss) (s : ∀ p ∈ ps, H' p = H p) : LsAt H' ps xss := by
  induction h with
  | nil => exact .nil
  | cons a _ ih => exact .cons ((s _ List.mem_cons_self).trans a) (ih fun p hp => s p (List.mem_cons_of_mem _ hp))
theorem LsAt.len {H : Hp} {ps : List Addr} {xss : List (List V)} (h : LsAt H ps xss) : ps.length = xss.length := by
  induction h with
  | nil => rfl
  | cons _ _ ih => rw [List.length_cons, List.length_cons, ih]
theorem LsAt.snoc {H : Hp} {ps : List Addr} {xss : List (List V)} {p : Addr} {xs : List V} (h : LsAt H ps xss) (hp : H p = some (.lst xs)) : LsAt H (ps ++ [p]) (xss ++ [xs]) := by
  induction h with
  | nil => exact .cons hp .nil
  | cons a _ ih => exact .cons a ih
theorem LsAt.rw {H : Hp} {ps : List Addr} {xss : List (List V)} (h : LsAt H ps xss) : RwAt H (ps.map fun p => (true, p)) xss := by
  induction h with
  | nil => exact .nil
  | cons a _ ih => exact .cons a ih
theorem LsAt.get {H : Hp} {ps : List Addr} {xss : List (List V)} (h : LsAt H ps xss) : ∀ {i : Nat} {p : Addr}, ps[i]? = some p → ∃ xs, xss[i]? = some xs ∧ H p = some (.lst xs) := by
  induction h with
  | nil => exact fun e => by simp at e
  | @cons p xs ps xss a _ ih =>
    intro i x e
    cases i with
    | zero =>
      cases e
      exact ⟨xs, rfl, a⟩
    | succ i => exact ih e
/-- a list of new lists, being made at D in what was H0 -/
structure Bld (H0 : Hp) (D : Addr) (xss : List (List V)) (H : Hp) : Prop where
  ex : ∃ ps, H D = some (.lst (ps.map V.ref)) ∧ LsAt H ps xss ∧ (∀ p ∈ ps, H0 p = none ∧ p ≠ D) ∧ ps.Nodup
  same : Same H0 H
  free : H0 D = none
theorem Bld.nil {H0 : Hp} {D : Addr} (h : H0 D = none) : Bld H0 D [] (upd H0 D (.lst [])) :=
  ⟨⟨[], upd_same, .nil, fun p hp => absurd hp List.not_mem_nil, List.nodup_nil⟩, fun b u hu => by rw [upd_ne (ne_of_none hu h)]; exact hu, h⟩
theorem Bld.ext {H0 H H' : Hp} {D : Addr} {xss : List (List V)} (b : Bld H0 D xss H) (s : Same H H') : Bld H0 D xss H' := by
  obtain ⟨ps, h1, h2, h3, h4⟩ := b.ex
  exact ⟨⟨ps, s _ _ h1, h2.same s, h3, h4⟩, b.same.trans s, b.free⟩
/-- one list more, new behind H -/
theorem Bld.add {H0 H H' : Hp} {D q : Addr} {xss : List (List V)} {xs : List V} (b : Bld H0 D xss H) (hq : H q = none) (s : Same H H') (h : H' q = some (.lst xs)) (hz : xss.length < sizeLine) :
    ∃ acc, H' D = some (.lst acc) ∧ acc.length < sizeLine ∧ Bld H0 D (xss ++ [xs]) (upd H' D (.lst (acc ++ [V.ref q]))) := by
  obtain ⟨ps, h1, h2, h3, h4⟩ := b.ex
  have qD : q ≠ D := fun e => by rw [e, h1] at hq; exact nomatch hq
  have hps : ∀ p ∈ ps, p ≠ D := fun p hp => (h3 p hp).2
  refine ⟨ps.map V.ref, s _ _ h1, by rw [List.length_map, h2.len]; exact hz, ⟨⟨ps ++ [q], by rw [List.map_append]; exact upd_same, ?_, fun p hp => ?_, ?_⟩, fun c u hu => ?_, b.free⟩⟩
  · exact ((h2.same s).on fun p hp => upd_ne (hps p hp)).snoc ((upd_ne qD).trans h)
  · rcases List.mem_append.mp hp with hp | hp
    · exact h3 p hp
    · obtain rfl : p = q := by simpa using hp
      refine ⟨?_, qD⟩
      cases e : H0 p with
      | none => rfl
      | some u => rw [b.same _ _ e] at hq; exact nomatch hq
  · refine List.nodup_append.mpr ⟨h4, by simp, fun a ha c hc e => ?_⟩
    obtain rfl : c = q := by simpa using hc
    subst e
    obtain ⟨i, hi⟩ := List.getElem?_of_mem ha
    obtain ⟨ys, _, hy⟩ := h2.get hi
    rw [hy] at hq
    exact nomatch hq
  · have : c ≠ D := fun e => by rw [e, b.free] at hu; exact nomatch hu
    rw [upd_ne this]
    exact s _ _ (b.same _ _ hu)
/-- a list of new lists -/
def NewM (H H' : Hp) (x : V) (xss : List (List V)) : Prop := ∃ D, x = V.ref D ∧ Bld H D xss H'
theorem NewM.same {H H' : Hp} {x : V} {xss : List (List V)} : NewM H H' x xss → Same H H'
  | ⟨_, _, b⟩ => b.same
theorem NewM.mat {H H' : Hp} {x : V} {xss : List (List V)} : NewM H H' x xss → MAt H' x xss
  | ⟨D, e, b⟩ => by
    obtain ⟨ps, h1, h2, _, _⟩ := b.ex
    exact ⟨true, D, ps.map fun p => (true, p), e, by rw [List.map_map]; exact h1, h2.rw⟩
/-- values into a new list -/
structure Vls (H0 : Hp) (D : Addr) (ys : List V) (H : Hp) : Prop where
  at_ : H D = some (.lst ys)
  same : Same H0 H
  free : H0 D = none
theorem Vls.nil {H0 : Hp} {D : Addr} (h : H0 D = none) : Vls H0 D [] (upd H0 D (.lst [])) := ⟨upd_same, fun b u hu => by rw [upd_ne (ne_of_none hu h)]; exact hu, h⟩
theorem Vls.ext {H0 H H' : Hp} {D : Addr} {ys : List V} (b : Vls H0 D ys H) (s : Same H H') : Vls H0 D ys H' := ⟨s _ _ b.at_, b.same.trans s, b.free⟩
theorem Vls.add {H0 H : Hp} {D : Addr} {ys : List V} {y : V} (b : Vls H0 D ys H) (hz : ys.length < sizeLine) : ∃ acc, H D = some (.lst acc) ∧ acc.length < sizeLine ∧ Vls H0 D (ys ++ [y]) (upd H D (.lst (acc ++ [y]))) :=
  ⟨ys, b.at_, hz, upd_same, fun c u hu => by
    have : c ≠ D := fun e => by rw [e, b.free] at hu; exact nomatch hu
    rw [upd_ne this]
    exact b.same _ _ hu, b.free⟩
theorem upd_new {H : Hp} {q : Addr} {o : HO} (h : H q = none) : Same H (upd H q o) := fun b u hu => by
  rw [upd_ne (ne_of_none hu h)]
  exact hu
theorem take_succ {α : Type} {l : List α} {i : Nat} {x : α} (h : l[i]? = some x) : l.take (i + 1) = l.take i ++ [x] := by
  rw [List.take_add_one, h]
  rfl

/-- a walk in a comprehension, whatever is asked of each turn -/
theorem out_it {J : It} {n : Nat} {G : Hp → Prop} {Y : Nat → Hp → V → Hp → Prop} (w : Walk J n G Y) {B : V → Hp → (Hp → Prop) → Prop} {H0 : Hp} {Qd : Hp → Prop} (Pv : Nat → Hp → Prop) (h0 : Pv 0 H0) (hG : ∀ i H, i ≤ n → Pv i H → G H)
    (hs : ∀ i x H H', i < n → Pv i H → Y i H x H' → B x H' (Pv (i + 1))) (hd : ∀ H, Pv n H → Qd H) :
    ∃ W : Nat → Nat → Hp → Prop, (∃ m, W 0 m H0) ∧ ∀ i m H, W i m H → (J.stop i H ∧ Qd H) ∨ (J.go i H ∧ ∃ Nx : Hp → Prop, (∀ H', Nx H' → ∃ m', m' < m ∧ W (i + 1) m' H') ∧ ∀ x H', J.yld i H x H' → B x H' Nx) := by
  refine ⟨fun i m H => m + i = n ∧ Pv i H, ⟨n, rfl, h0⟩, ?_⟩
  rintro i m H ⟨e, p⟩
  have q := hG i H (by omega) p
  by_cases hlt : (i < n)
  · exact .inr ⟨w.goes i H hlt q, Pv (i + 1), fun H' p' => ⟨m - 1, by omega, by omega, p'⟩, fun x H' y => hs i x H H' hlt p (w.yields i H x H' hlt q y)⟩
  · obtain rfl : i = n := by omega
    exact .inl ⟨w.stops H q, hd H p⟩
theorem pi_zipPK {K : PySem.W.Frag} {X : Cx} (h : X.K = K) {tg e e2 : Expr} {ta : TA} {p pos : Pos} (hg : Gl X "zip") (hm : X.mg "zip" = none) (ha : PA X [e, e2] ta)
    (hs : starEach [e, e2] X.env = (false, eval e X.env) :: starEach [e2] X.env := by rfl) (hpl : (backTo pos (starEach [e2] X.env)).any (·.1) = false := by rfl) : PI X tg (.Call (.Name "zip" p) [e, e2] [] pos) (iZipP K ta) := by
  subst h
  exact pi_zipP hg hm ha hs hpl
/-! ### rules within a comprehension, the written part named -/
def rLen (K : PySem.W.Frag) : List V → Hp → VK → Prop := fun xs H Q => ∃ p ys, xs = [V.ref p] ∧ (SqL K H p ys ∨ SqT K H p ys) ∧ Q (.int ys.length) H
def rListOf (K : PySem.W.Frag) : List V → Hp → VK → Prop := fun xs H Q => ∃ p ys, xs = [V.ref p] ∧ (SqL K H p ys ∨ SqT K H p ys) ∧ ∀ l, H l = none → Q (.ref l) (upd H l (.lst ys))
def rTupOf (K : PySem.W.Frag) : List V → Hp → VK → Prop := fun xs H Q => ∃ p ys, xs = [V.ref p] ∧ ((SqL K H p ys ∧ ∀ l, H l = none → Q (.ref l) (upd H l (.tup ys))) ∨ (SqT K H p ys ∧ Q (.ref p) H))
section
variable {K : PySem.W.Frag} {X : Cx} (h : X.K = K)
include h
theorem call_lenK : CallR X (.builtin "len") (rLen K) := by subst h; exact call_len_seq
theorem call_listK : CallR X (.type "list") (rListOf K) := by subst h; exact call_list_of
theorem call_tupleK : CallR X (.type "tuple") (rTupOf K) := by subst h; exact call_tuple_of
theorem cr_minK (hc : X.calm = true) : CallR X (.builtin "min") (rMin K) := by subst h; exact cr_min hc
theorem ix_listK : IxR X (rIxL K) := by subst h; exact ix_list
theorem pg_tupK {es : List Expr} {k : Nat} {pos : Pos} {t : TGs} {n : Nat} (hc : X.calm = true) (hs : PGs X es t) (hn : (assignEach es X.env).length = n := by rfl) (hst : (assignEach es X.env).findIdx? (·.1) = none := by rfl) : PG X (.Tuple es k pos) (gTup K n t) := by
  subst h
  exact pg_tup hc hs hn hst
theorem pi_listK {tg l : Expr} {tl : TE} (hl : PE X l tl) : PI X tg l (iList K tl) := by subst h; exact pi_list hl
theorem pi_sqK {tg l : Expr} {tl : TE} (hl : PE X l tl) : PI X tg l (iSq K tl) := by subst h; exact pi_sq hl
end
end KM

set_option maxHeartbeats 1000000
namespace KT
open PySem L2 Gd
/-! ### what is_tree says of any value -/
def isSgnS (x : Str) : Bool := decide (x = sSgn 0) || (decide (x = sSgn 1) || decide (x = sSgn 2))
def kds : List Str := [sNone, sEmpty, sLetter, sName, sSeq, sCho, sSgn 0, sSgn 1, sSgn 2] ++ odd3
def needsS (x : Str) (p : Int) : Bool := if x = sCho then decide (1 ≤ p) else if x = sSeq ∨ x = sEmpty then decide (2 ≤ p) else isSgnS x && decide (p = 3)
def placeS (x : Str) : Int := if x = sCho then 1 else if x = sSeq then 2 else 3
def itemsD : PyData → List PyData
  | .list ds => ds
  | .tuple ds => ds
  | _ => []
def isSeqD : PyData → Bool
  | .list _ => true
  | .tuple _ => true
  | _ => false
def isLetD : PyData → Bool
  | .str x => decide (x.length = 1) && x.cps.toList.all low
  | _ => false
def isNamD : PyData → Bool
  | .str x => decide (1 ≤ x.length) && (decide (x.length ≤ 8) && x.cps.toList.all low)
  | _ => false
def ShortD (d : PyData) : Prop := ∀ x, d = .str x → Tx 100000 x
mutual
inductive TB : Nat → PyData → Int → Int → Bool → Prop
  | noT {n : Nat} {d : PyData} {p r : Int} : (∀ ds, d ≠ .tuple ds) → TB n d p r false
  | nil {n : Nat} {p r : Int} : TB n (.tuple []) p r false
  | noS {n : Nat} {d : PyData} {ds : List PyData} {p r : Int} : (∀ x, d ≠ .str x) → TB n (.tuple (d :: ds)) p r false
  | shut {n : Nat} {x : Str} {ds : List PyData} {p r : Int} : x ∈ kds → needsS x p = true → r ≤ 0 → TB n (.tuple (.str x :: ds)) p r false
  | par {n : Nat} {x : Str} {ds : List PyData} {p r : Int} {b : Bool} : x ∈ kds → needsS x p = true → 0 < r → TB n (.tuple (.str x :: ds)) 0 (r - 1) b → TB (n + 1) (.tuple (.str x :: ds)) p r b
  | leaf {n : Nat} {x : Str} {ds : List PyData} {p r : Int} : x = sNone ∨ x = sEmpty → needsS x p = false → TB n (.tuple (.str x :: ds)) p r (decide (ds.length = 0))
  | many {n : Nat} {x : Str} {ds : List PyData} {p r : Int} : x ∈ kds → needsS x p = false → x ≠ sNone → x ≠ sEmpty → ds.length ≠ 1 → TB n (.tuple (.str x :: ds)) p r false
  | letter {n : Nat} {d : PyData} {p r : Int} : ShortD d → TB n (.tuple [.str sLetter, d]) p r (isLetD d)
  | name {n : Nat} {d : PyData} {p r : Int} : ShortD d → TB n (.tuple [.str sName, d]) p r (isNamD d)
  | sgn {n : Nat} {k : Fin 3} {d : PyData} {p r : Int} {b : Bool} : needsS (sSgn k) p = false → TB n d 3 r b → TB (n + 1) (.tuple [.str (sSgn k), d]) p r b
  | odd {n : Nat} {x : Str} {d : PyData} {p r : Int} : x ∈ odd3 → TB n (.tuple [.str x, d]) p r false
  | lst {n : Nat} {x : Str} {d : PyData} {p r : Int} {b : Bool} : x = sSeq ∨ x = sCho → needsS x p = false → TBv n d (placeS x) r b → TB (n + 1) (.tuple [.str x, d]) p r b
inductive TBv : Nat → PyData → Int → Int → Bool → Prop
  | noL {n : Nat} {d : PyData} {p r : Int} : isSeqD d = false → TBv n d p r false
  | few {n : Nat} {d : PyData} {p r : Int} : isSeqD d = true → (itemsD d).length < 2 → TBv n d p r false
  | all {n : Nat} {d : PyData} {p r : Int} {b : Bool} : isSeqD d = true → 2 ≤ (itemsD d).length → (itemsD d).length ≤ 100000 → TBs n (itemsD d) p r b → TBv (n + 1) d p r b
inductive TBs : Nat → List PyData → Int → Int → Bool → Prop
  | nil {n : Nat} {p r : Int} : TBs n [] p r true
  | no {n : Nat} {d : PyData} {ds : List PyData} {p r : Int} : TB n d p r false → TBs n (d :: ds) p r false
  | yes {n : Nat} {d : PyData} {ds : List PyData} {p r : Int} {b : Bool} : TB n d p r true → TBs n ds p r b → TBs n (d :: ds) p r b
end
section
variable {K : PySem.W.Frag} {H H' : Hp} {v : V} {d : PyData}
theorem _root_.Gd.Db.pv (h : Db K H v d) : Pv H v := by
  cases h with
  | lst e _ => show kindO (H _) ≠ .odd; rw [e]; exact fun z => nomatch z
  | tup e _ => show kindO (H _) ≠ .odd; rw [e]; exact fun z => nomatch z
  | dct e _ => show kindO (H _) ≠ .odd; rw [e]; exact fun z => nomatch z
  | dcT e _ => show kindO (H _) ≠ .odd; rw [e]; exact fun z => nomatch z
  | _ => exact fun z => nomatch z
theorem _root_.Gd.Db.tuped (h : Db K H v d) : inst "tuple" (kind H v) = (match d with | .tuple _ => true | _ => false) := by
  cases h with
  | lst e _ => show inst "tuple" (kindO (H _)) = false; rw [e]; show inst "tuple" Gd.Kind.lst = false; decide +kernel
  | tup e _ => show inst "tuple" (kindO (H _)) = true; rw [e]; show inst "tuple" Gd.Kind.tup = true; decide +kernel
  | dct e _ => show inst "tuple" (kindO (H _)) = false; rw [e]; show inst "tuple" Gd.Kind.dct = false; decide +kernel
  | dcT e _ => show inst "tuple" (kindO (H _)) = false; rw [e]; show inst "tuple" Gd.Kind.dct = false; decide +kernel
  | non => show inst "tuple" Gd.Kind.non = false; decide +kernel
  | bl b => show inst "tuple" Gd.Kind.bl = false; decide +kernel
  | int i => show inst "tuple" Gd.Kind.int = false; decide +kernel
  | str x => show inst "tuple" Gd.Kind.str = false; decide +kernel
theorem _root_.Gd.Db.seqed (h : Db K H v d) : (inst "list" (kind H v) || inst "tuple" (kind H v)) = isSeqD d := by
  cases h with
  | lst e _ => show (inst "list" (kindO (H _)) || inst "tuple" (kindO (H _))) = true; rw [e]; show (inst "list" Gd.Kind.lst || inst "tuple" Gd.Kind.lst) = true; decide +kernel
  | tup e _ => show (inst "list" (kindO (H _)) || inst "tuple" (kindO (H _))) = true; rw [e]; show (inst "list" Gd.Kind.tup || inst "tuple" Gd.Kind.tup) = true; decide +kernel
  | dct e _ => show (inst "list" (kindO (H _)) || inst "tuple" (kindO (H _))) = false; rw [e]; show (inst "list" Gd.Kind.dct || inst "tuple" Gd.Kind.dct) = false; decide +kernel
  | dcT e _ => show (inst "list" (kindO (H _)) || inst "tuple" (kindO (H _))) = false; rw [e]; show (inst "list" Gd.Kind.dct || inst "tuple" Gd.Kind.dct) = false; decide +kernel
  | non => show (inst "list" Gd.Kind.non || inst "tuple" Gd.Kind.non) = false; decide +kernel
  | bl b => show (inst "list" Gd.Kind.bl || inst "tuple" Gd.Kind.bl) = false; decide +kernel
  | int i => show (inst "list" Gd.Kind.int || inst "tuple" Gd.Kind.int) = false; decide +kernel
  | str x => show (inst "list" Gd.Kind.str || inst "tuple" Gd.Kind.str) = false; decide +kernel
theorem _root_.Gd.Db.strd (h : Db K H v d) : inst "str" (kind H v) = (match d with | .str _ => true | _ => false) := by
  rw [isStr_kind]
  cases h <;> rfl
theorem _root_.Gd.Db.letd (h : Db K H v d) : isLet v = isLetD d := by cases h <;> rfl
theorem _root_.Gd.Db.namd (h : Db K H v d) : isNam v = isNamD d := by cases h <;> rfl
theorem _root_.Gd.Db.short (h : Db K H v d) (s : ShortD d) : Short v := by
  intro x e
  cases h with
  | str y => cases e; exact s _ rfl
  | _ => exact nomatch e
theorem _root_.Gd.Db.sq (h : Db K H v d) (e : isSeqD d = true) : ∃ (b : Bool) (a : Addr) (xs : List V), v = .ref a ∧ H a = some (KM.so b xs) ∧ DbL K H xs (itemsD d) := by
  cases h with
  | lst h r => exact ⟨true, _, _, rfl, h, r⟩
  | tup h r => exact ⟨false, _, _, rfl, h, r⟩
  | _ => exact nomatch e
end
def spTB (K : PySem.W.Frag) (m : Nat) : Sp := fun vs H Q _ => ∃ (v : V) (d : PyData) (p r : Int) (b : Bool) (n : Nat), vs = [v, .int p, .int r] ∧ Db K H v d ∧ TB n d p r b ∧ n < m ∧ ∀ H', Same H H' → Q (.bl b) H'
def spTV (K : PySem.W.Frag) (m : Nat) : Sp := fun vs H Q _ => ∃ (v : V) (d : PyData) (p r : Int) (b : Bool) (n : Nat), vs = [v, .int p, .int r] ∧ Db K H v d ∧ TBv n d p r b ∧ n < m ∧ ∀ H', Same H H' → Q (.bl b) H'
def spNeedsS : Sp := fun vs H Q _ => ∃ (x : Str) (p : Int), vs = [.str x, .int p] ∧ x ∈ kds ∧ Q (.bl (needsS x p)) H
def spPlaceS : Sp := fun vs H Q _ => ∃ x : Str, vs = [.str x] ∧ Q (.int (placeS x)) H
def spIsListD (K : PySem.W.Frag) : Sp := fun vs H Q _ => ∃ v d, vs = [v] ∧ Db K H v d ∧ ∀ H', Same H H' → Q (.bl (isSeqD d)) H'
theorem strEq (x z : Str) : decide (V.str x = V.str z) = decide (x = z) := decide_eq_decide.mpr ⟨fun h => by injection h, fun h => by rw [h]⟩
section
variable {P : Program} {w : World} {K : PySem.W.Frag} {mg : Str → Option Value} {base : Heap} {aS aL : Addr} {es : Array DictEntry} {n : Nat}
theorem sgn_at (T : Txt w K mg base aS aL es n) {x : Str} (h : x ∈ kds) : ∃ r, PySem.W.nsIn K aS x = some r ∧ r.isSome = isSgnS x := by
  have tr : ∀ t : Tr, isSgn t = isSgnS t.kind → ∃ r, PySem.W.nsIn K aS t.kind = some r ∧ r.isSome = isSgnS t.kind := fun t e => by
    obtain ⟨r, h1, h2⟩ := T.i_SIGNS_BY_KIND t
    exact ⟨r, h1, h2.trans e⟩
  have od : ∀ x ∈ odd3, isSgnS x = false := by decide +kernel
  unfold kds at h
  rcases List.mem_append.mp h with h | h
  · simp only [List.mem_cons, List.not_mem_nil, or_false] at h
    rcases h with rfl | rfl | rfl | rfl | rfl | rfl | rfl | rfl | rfl
    · exact tr .none (by decide +kernel)
    · exact tr .empty (by decide +kernel)
    · exact tr (.letter 97) (by decide +kernel)
    · exact tr (.name "x") (by decide +kernel)
    · exact tr (.seq []) (by decide +kernel)
    · exact tr (.cho []) (by decide +kernel)
    · exact tr (.sgn 0 .none) (by decide +kernel)
    · exact tr (.sgn 1 .none) (by decide +kernel)
    · exact tr (.sgn 2 .none) (by decide +kernel)
  · exact ⟨none, T.o_SIGNS_BY_KIND x h, by rw [od x h]; rfl⟩
abbrev sneeds_parentheses : Stmt := top 30
theorem scneeds_parentheses : FnScope ["kind", "place"] ["kind", "place"] (defScope sneeds_parentheses) := ⟨rfl, rfl, rfl, by decide +kernel, rfl, by decide +kernel, by decide +kernel⟩
theorem ok_needs {f : Addr} {fd : FuncData} (F : Fun K "needs_parentheses" "needs_parentheses" sneeds_parentheses f fd) (T : Txt w K mg base aS aL es n) : FnG P w K mg base CX0 1 f fd ["kind", "place"] spNeedsS := by
  refine okG F scneeds_parentheses (fun vs H Q E h => ?_) (fun cdv A outer s H vs Q E hc hr h => ?_)
  · obtain ⟨x, p, rfl, _⟩ := h
    rfl
  obtain ⟨x, p, rfl, hx, q⟩ := h
  refine ⟨_, (pss_cons (ps_if (pt_cmpR op_eq (pv 0) pe_str (nomark _))
  (pss_one (ps_ret (pe_cmpR op_ge (pv 1) (pe_k (by rfl) T.g_ROW) (nomark _)))) pss_nil)
 (pss_cons (ps_if (PW.pt (pw_or (pt_cmpR op_eq (pv 0) pe_str (nomark _)) (pw_or1 (pt_cmpR op_eq (pv 0) pe_str (nomark _)))))
  (pss_one (ps_ret (pe_cmpR op_ge (pv 1) (pe_k (by rfl) T.g_ITEM) (nomark _)))) pss_nil)
 (pss_one (ps_ret (pe_and (pe_cmpR (op_in_kd T.d_SIGNS_BY_KIND) (pv 0) (pe_k (by rfl) T.g_SIGNS_BY_KIND) (by rfl)) (pe_one (pe_cmpR op_eq (pv 1) (pe_k (by rfl) T.g_OPERAND) (nomark _)))))))), ?_⟩
  obtain ⟨r, hr1, hr2⟩ := sgn_at T hx
  unfold needsS at q
  refine ⟨_, rfl, rfl, _, rfl, ?_⟩
  rw [strEq]
  refine iteB (fun c => ?_) (fun c => ?_)
  · rw [if_pos (of_decide_eq_true c)] at q
    exact ⟨_, rfl, _, _, rfl, rfl, q⟩
  rw [if_neg (of_decide_eq_false c)] at q
  refine ⟨_, rfl, rfl, _, rfl, ?_⟩
  rw [strEq]
  refine iteB (fun c2 => ?_) (fun c2 => ?_)
  · rw [if_pos (.inl (of_decide_eq_true c2))] at q
    exact iteT ⟨_, rfl, _, _, rfl, rfl, q⟩
  refine ⟨_, rfl, rfl, _, rfl, ?_⟩
  rw [strEq]
  refine iteB (fun c3 => ?_) (fun c3 => ?_)
  · rw [if_pos (.inr (of_decide_eq_true c3))] at q
    exact ⟨_, rfl, _, _, rfl, rfl, q⟩
  rw [if_neg (fun z => z.elim (of_decide_eq_false c2) (of_decide_eq_false c3))] at q
  refine ⟨_, rfl, _, r, rfl, rfl, hr1, _, rfl, ?_⟩
  rw [hr2]
  refine iteB (fun c4 => ?_) (fun c4 => ?_)
  · rw [c4, Bool.true_and] at q
    refine ⟨_, rfl, rfl, ?_⟩
    have e3 : decide (V.int p = V.int 3) = decide (p = 3) := decide_eq_decide.mpr ⟨fun z => by injection z, fun z => by rw [z]⟩
    rw [e3]
    exact q
  · rw [c4, Bool.false_and] at q
    exact q
abbrev splace_inside : Stmt := top 31
theorem scplace_inside : FnScope ["kind"] ["kind"] (defScope splace_inside) := ⟨rfl, rfl, rfl, by decide +kernel, rfl, by decide +kernel, by decide +kernel⟩
theorem ok_place {f : Addr} {fd : FuncData} (F : Fun K "place_inside" "place_inside" splace_inside f fd) (T : Txt w K mg base aS aL es n) : FnG P w K mg base CX0 1 f fd ["kind"] spPlaceS := by
  refine okG F scplace_inside (fun vs H Q E h => ?_) (fun cdv A outer s H vs Q E hc hr h => ?_)
  · obtain ⟨x, rfl, _⟩ := h
    rfl
  obtain ⟨x, rfl, q⟩ := h
  refine ⟨_, (pss_cons (ps_if (pt_cmpR op_eq (pv 0) pe_str (nomark _))
  (pss_one (ps_ret (pe_k (by rfl) T.g_ROW))) pss_nil)
 (pss_cons (ps_if (pt_cmpR op_eq (pv 0) pe_str (nomark _))
  (pss_one (ps_ret (pe_k (by rfl) T.g_ITEM))) pss_nil)
 (pss_one (ps_ret (pe_k (by rfl) T.g_OPERAND))))), ?_⟩
  unfold placeS at q
  refine ⟨_, rfl, rfl, _, rfl, ?_⟩
  rw [strEq]
  refine iteB (fun c => ?_) (fun c => ?_)
  · rw [if_pos (of_decide_eq_true c)] at q
    exact q
  rw [if_neg (of_decide_eq_false c)] at q
  refine ⟨_, rfl, rfl, _, rfl, ?_⟩
  rw [strEq]
  refine iteB (fun c2 => ?_) (fun c2 => ?_)
  · rw [if_pos (of_decide_eq_true c2)] at q
    exact q
  rw [if_neg (of_decide_eq_false c2)] at q
  exact q
abbrev sis_list : Stmt := top 14
theorem scis_list : FnScope ["value"] ["value"] (defScope sis_list) := ⟨rfl, rfl, rfl, by decide +kernel, rfl, by decide +kernel, by decide +kernel⟩
theorem ok_islist {f : Addr} {fd : FuncData} (F : Fun K "is_list" "is_list" sis_list f fd) (T : Txt w K mg base aS aL es n) : FnG P w K mg base CX0 1 f fd ["value"] (spIsListD K) := by
  refine okG F scis_list (fun vs H Q E h => ?_) (fun cdv A outer s H vs Q E hc hr h => ?_)
  · obtain ⟨v, d, rfl, _⟩ := h
    rfl
  obtain ⟨v, d, rfl, hd, q⟩ := h
  refine ⟨_, (pss_one (ps_ret (pe_callB call_isk2 (by rfl) T.z_isinstance (by decide +kernel) (pa_cons (pv 0) (pa_cons (pe_tup (pa_cons (pe_bltn (v := .ty "list") (by rfl) T.z_list (by decide +kernel) rfl) (pa_cons (pe_bltn (v := .ty "tuple") (by rfl) T.z_tuple (by decide +kernel) rfl) pa_nil))) pa_nil))))), ?_⟩
  refine ⟨_, rfl, by show 2 ≤ sizeLine; decide, fun t ht => ?_⟩
  have s1 : Same H (upd H t (.tup [.ty "list", .ty "tuple"])) := fun c u h => by rw [upd_ne (ne_of_none h ht)]; exact h
  refine ⟨v, t, "list", "tuple", rfl, upd_same, .inr (.inr (.inr (.inl rfl))), .inr (.inr (.inr (.inr (.inl rfl)))), (hd.same s1).pv, ?_⟩
  rw [(hd.same s1).seqed]
  exact q _ s1
end
end KT

namespace KT
open PySem L2 Gd KM
theorem so_at {K : PySem.W.Frag} {H : Hp} {a : Addr} {b : Bool} {xs : List V} (h : H a = some (KM.so b xs)) : SqL K H a xs ∨ SqT K H a xs := by
  cases b with
  | true => exact .inl (SqL.of h)
  | false => exact .inr (SqT.of h)
theorem TBs.at {ds : List PyData} {n : Nat} {p r : Int} {b : Bool} {i : Nat} {d : PyData} (h : TBs n (ds.drop i) p r b) (hd : ds[i]? = some d) : (TB n d p r false ∧ b = false) ∨ (TB n d p r true ∧ TBs n (ds.drop (i + 1)) p r b) := by
  have e : ds.drop i = d :: ds.drop (i + 1) := by
    obtain ⟨hi, rfl⟩ := List.getElem?_eq_some_iff.mp hd
    exact List.drop_eq_getElem_cons hi
  rw [e] at h
  cases h with
  | no h => exact .inl ⟨h, rfl⟩
  | yes h r => exact .inr ⟨h, r⟩
section
variable {P : Program} {w : World} {K : PySem.W.Frag} {mg : Str → Option Value} {base : Heap} {aS aL : Addr} {es : Array DictEntry} {n : Nat}
abbrev sare_trees_at : Stmt := top 34
theorem scare_trees_at : FnScope ["value", "place", "room", "part"] ["value", "place", "room"] (defScope sare_trees_at) := ⟨rfl, rfl, rfl, by decide +kernel, rfl, by decide +kernel, by decide +kernel⟩
theorem ok_aretrees {f f1 f2 : Addr} {fd fd1 fd2 : FuncData} {m : Nat} (F : Fun K "are_trees_at" "are_trees_at" sare_trees_at f fd) (T : Txt w K mg base aS aL es n)
    (D_is_list : Df P w K mg base CX0 1 "is_list" f1 fd1 ["value"] (spIsListD K)) (D_is_tree_at : Df P w K mg base CX0 (2 + m) "is_tree_at" f2 fd2 ["value", "place", "room"] (spTB K m)) :
    FnG P w K mg base CX0 (2 + m + 1) f fd ["value", "place", "room"] (spTV K (m + 1)) := by
  refine okG F scare_trees_at (fun vs H Q E h => ?_) (fun cdv A outer s H vs Q E hc hr h => ?_)
  · obtain ⟨v, d, p, r, b, n, rfl, _⟩ := h
    rfl
  obtain ⟨v, d, p, r, b, n, rfl, hd, tb, hm, q⟩ := h
  refine ⟨_, (pss_cons (ps_if (PW.pt (pw_or (pt_not (pt_val (pe_d D_is_list hc (hr.mono (by omega)) (by rfl) (fun _ => passN) (pa_cons (pv 0) pa_nil)))) (pw_or1 (pt_cmpR op_lt (pe_callB call_len_seq (by rfl) T.z_len (by decide +kernel) (pa_cons (pv 0) pa_nil)) pe_int (nomark _)))))
  (pss_one (ps_ret pe_bl)) pss_nil)
 (pss_cons (ps_for (passes_of rfl) rfl (pi_sq (pv 0)) (pg_name (i := 3) scare_trees_at.nd rfl (Or.inl rfl))
  (pss_one (ps_if (pt_not (pt_val (pe_d D_is_tree_at hc (hr.mono (by omega)) (by rfl) (fun _ => passN) (pa_cons (pv 3) (pa_cons (pv 1) (pa_cons (pv 2) pa_nil))))))
  (pss_one (ps_ret pe_bl)) pss_nil)))
 (pss_one (ps_ret pe_bl)))), ?_⟩
  have sz := sizeLine_eq
  refine ⟨_, rfl, v, d, rfl, hd, fun H1 s1 => ⟨_, rfl, ?_⟩⟩
  cases e : isSeqD d with
  | false =>
    cases tb with
    | noL _ => exact iteT (iteT (q _ s1))
    | few e2 _ => rw [e] at e2; exact nomatch e2
    | all e2 _ _ _ => rw [e] at e2; exact nomatch e2
  | true =>
  obtain ⟨bb, a, xs, rfl, ha, hl⟩ := hd.sq e
  have ll := hl.length
  refine iteF ⟨_, rfl, a, xs, rfl, so_at (s1 _ _ ha), _, _, rfl, rfl, _, rfl, ?_⟩
  cases tb with
  | noL e2 => rw [e] at e2; exact nomatch e2
  | few _ l2 => exact iteB (fun _ => q _ s1) (fun c => absurd (of_decide_eq_false c) (by omega))
  | all _ l2 l3 tbs =>
  refine iteB (fun c => absurd (of_decide_eq_true c) (by omega)) (fun _ => ?_)
  refine ⟨_, rfl, bb, a, xs, rfl, KM.so_sq (s1 _ _ ha), ?_⟩
  refine L2.for_it KM.walk_sq (fun i σ H' => (∃ o3 : Option V, σ = [some (.ref a), some (.int p), some (.int r), o3]) ∧ Same H H' ∧ TBs _ ((itemsD d).drop i) p r b) ⟨⟨_, rfl⟩, s1, tbs⟩ (fun i σ H' _ pv => KM.so_sq (pv.2.1 _ _ ha)) ?_ ?_
  · rintro i y σ H2 _ lti ⟨⟨o3, rfl⟩, s2, tbs⟩ ⟨rfl, hy⟩
    rename_i H2
    obtain ⟨dd, hdd, hy2⟩ := hl.at hy
    obtain ⟨b', tb', n1, n2⟩ : ∃ b', TB _ dd p r b' ∧ (b' = false → b = false) ∧ (b' = true → TBs _ ((itemsD d).drop (i + 1)) p r b) := by
      rcases tbs.at hdd with ⟨h1, h2⟩ | ⟨h1, h2⟩
      · exact ⟨false, h1, fun _ => h2, fun z => nomatch z⟩
      · exact ⟨true, h1, (fun z => nomatch z), fun _ => h2⟩
    refine ⟨_, rfl, _, rfl, _, rfl, y, dd, p, r, b', _, rfl, hy2.same s2, tb', by omega, fun H3 s3 => ⟨_, rfl, ?_⟩⟩
    cases b' with
    | false =>
      have := n1 rfl
      subst this
      exact iteT (q _ (s2.trans s3))
    | true => exact iteF ⟨⟨_, rfl⟩, s2.trans s3, n2 rfl⟩
  · rintro σ H2 ⟨⟨o3, rfl⟩, s2, tbs⟩
    rw [← ll, List.drop_length] at tbs
    cases tbs with
    | nil => exact q _ s2
end
end KT

namespace KT
open PySem L2 Gd KM
def Bd (n : Nat) (x : Str) (ds : List PyData) (r : Int) (b : Bool) : Prop :=
  ((x = sNone ∨ x = sEmpty) ∧ b = decide (ds.length = 0)) ∨ (x ≠ sNone ∧ x ≠ sEmpty ∧ ds.length ≠ 1 ∧ b = false) ∨ ∃ d, ds = [d] ∧ ((x = sLetter ∧ ShortD d ∧ b = isLetD d) ∨ (x = sName ∧ ShortD d ∧ b = isNamD d) ∨
    (∃ (j : Fin 3) (k : Nat), x = sSgn j ∧ n = k + 1 ∧ TB k d 3 r b) ∨ (x ∈ odd3 ∧ b = false) ∨ ∃ k : Nat, (x = sSeq ∨ x = sCho) ∧ n = k + 1 ∧ TBv k d (placeS x) r b)
theorem needs_no {x : Str} {p : Int} (h : x = sNone ∨ x = sLetter ∨ x = sName ∨ x ∈ odd3) : needsS x p = false := by
  have e : ∀ y ∈ [sNone, sLetter, sName] ++ odd3, y ≠ sCho ∧ ¬ (y = sSeq ∨ y = sEmpty) ∧ isSgnS y = false := by decide +kernel
  have m : x ∈ [sNone, sLetter, sName] ++ odd3 := by
    rcases h with rfl | rfl | rfl | h
    · decide +kernel
    · decide +kernel
    · decide +kernel
    · exact List.mem_append_right _ h
  obtain ⟨a, b, c⟩ := e x m
  unfold needsS
  rw [if_neg a, if_neg b, c]
  rfl
theorem TB.inv {n : Nat} {x : Str} {ds : List PyData} {p r : Int} {b : Bool} (h : TB n (.tuple (.str x :: ds)) p r b) :
    x ∈ kds ∧ ((needsS x p = true ∧ ((r ≤ 0 ∧ b = false) ∨ (0 < r ∧ ∃ k, n = k + 1 ∧ TB k (.tuple (.str x :: ds)) 0 (r - 1) b))) ∨ (needsS x p = false ∧ Bd n x ds r b)) := by
  have m9 : ∀ y ∈ [sNone, sEmpty, sLetter, sName, sSeq, sCho, sSgn 0, sSgn 1, sSgn 2], y ∈ kds := fun y hy => List.mem_append_left _ hy
  have m3 : ∀ k : Fin 3, sSgn k ∈ [sNone, sEmpty, sLetter, sName, sSeq, sCho, sSgn 0, sSgn 1, sSgn 2] := by decide +kernel
  cases h with
  | noT h => exact absurd rfl (h _)
  | noS h => exact absurd rfl (h _)
  | shut k e l => exact ⟨k, .inl ⟨e, .inl ⟨l, rfl⟩⟩⟩
  | par k e l t => exact ⟨k, .inl ⟨e, .inr ⟨l, _, rfl, t⟩⟩⟩
  | leaf k e => exact ⟨m9 _ (by rcases k with rfl | rfl <;> decide +kernel), .inr ⟨e, .inl ⟨k, rfl⟩⟩⟩
  | many k e a c l => exact ⟨k, .inr ⟨e, .inr (.inl ⟨a, c, l, rfl⟩)⟩⟩
  | letter s => exact ⟨m9 _ (by decide +kernel), .inr ⟨needs_no (.inr (.inl rfl)), .inr (.inr ⟨_, rfl, .inl ⟨rfl, s, rfl⟩⟩)⟩⟩
  | name s => exact ⟨m9 _ (by decide +kernel), .inr ⟨needs_no (.inr (.inr (.inl rfl))), .inr (.inr ⟨_, rfl, .inr (.inl ⟨rfl, s, rfl⟩)⟩)⟩⟩
  | sgn e t =>
    exact ⟨m9 _ (m3 _), .inr ⟨e, .inr (.inr ⟨_, rfl, .inr (.inr (.inl ⟨_, _, rfl, rfl, t⟩))⟩)⟩⟩
  | odd h => exact ⟨List.mem_append_right _ h, .inr ⟨needs_no (.inr (.inr (.inr h))), .inr (.inr ⟨_, rfl, .inr (.inr (.inr (.inl ⟨h, rfl⟩)))⟩)⟩⟩
  | lst h e t => exact ⟨m9 _ (by rcases h with rfl | rfl <;> decide +kernel), .inr ⟨e, .inr (.inr ⟨_, rfl, .inr (.inr (.inr (.inr ⟨_, h, rfl, t⟩)))⟩)⟩⟩
theorem TB.up {n m : Nat} {d : PyData} {p r : Int} {b : Bool} (h : TB n d p r b) (e : n ≤ m) : ∃ k, k ≤ m ∧ TB k d p r b := ⟨n, e, h⟩
section
variable {P : Program} {w : World} {K : PySem.W.Frag} {mg : Str → Option Value} {base : Heap} {aS aL : Addr} {es : Array DictEntry} {n : Nat}
abbrev sis_tree_at : Stmt := top 33
theorem scis_tree_at : FnScope ["value", "place", "room", "kind"] ["value", "place", "room"] (defScope sis_tree_at) := ⟨rfl, rfl, rfl, by decide +kernel, rfl, by decide +kernel, by decide +kernel⟩
theorem ok_treeat {f f1 f2 f3 f4 f5 f6 : Addr} {fd fd1 fd2 fd3 fd4 fd5 fd6 : FuncData} {m : Nat} (F : Fun K "is_tree_at" "is_tree_at" sis_tree_at f fd) (T : Txt w K mg base aS aL es n)
    (D_is_letter : Df P w K mg base CX0 1 "is_letter" f1 fd1 ["value"] (spAsk isLet)) (D_is_name : Df P w K mg base CX0 2 "is_name" f2 fd2 ["value"] (spAsk isNam))
    (D_needs_parentheses : Df P w K mg base CX0 1 "needs_parentheses" f3 fd3 ["kind", "place"] spNeedsS) (D_place_inside : Df P w K mg base CX0 1 "place_inside" f4 fd4 ["kind"] spPlaceS)
    (D_are_trees_at : Df P w K mg base CX0 (2 + m) "are_trees_at" f5 fd5 ["value", "place", "room"] (spTV K m)) (D_is_tree_at : Df P w K mg base CX0 (2 + m) "is_tree_at" f6 fd6 ["value", "place", "room"] (spTB K m)) :
    FnG P w K mg base CX0 (2 + m + 1) f fd ["value", "place", "room"] (spTB K (m + 1)) := by
  refine okG (k := 2 + m) F scis_tree_at (fun vs H Q E h => ?_) (fun cdv A outer s H vs Q E hc hr h => ?_)
  · obtain ⟨v, d, p, r, b, n, rfl, _⟩ := h
    rfl
  obtain ⟨v, d, p, r, b, n, rfl, hd, tb, hm, q⟩ := h
  refine ⟨_, (pss_cons (ps_if (PW.pt (pw_or (pt_not (pt_val (pe_callB call_isk (by rfl) T.z_isinstance (by decide +kernel) (pa_cons (pv 0) (pa_cons (pe_bltn (v := .ty "tuple") (by rfl) T.z_tuple (by decide +kernel) rfl) pa_nil))))) (pw_or (pt_cmpR op_eq (pe_callB call_len_seq (by rfl) T.z_len (by decide +kernel) (pa_cons (pv 0) pa_nil)) pe_int (nomark _)) (pw_or1 (pt_not (pt_val (pe_callB call_isk (by rfl) T.z_isinstance (by decide +kernel) (pa_cons (pe_ix ix_tup (pv 0) pe_int (fun _ _ => rfl)) (pa_cons (pe_bltn (v := .ty "str") (by rfl) T.z_str (by decide +kernel) rfl) pa_nil)))))))))
  (pss_one (ps_ret pe_bl)) pss_nil)
 (pss_cons (ps_set (i := 3) scis_tree_at.nd rfl (Or.inl rfl) (pe_ix ix_tup (pv 0) pe_int (fun _ _ => rfl)))
 (pss_cons (ps_if (pt_val (pe_d D_needs_parentheses hc (hr.mono (by omega)) (by rfl) (fun _ => passN) (pa_cons (pv 3) (pa_cons (pv 1) pa_nil))))
  (pss_one (ps_ret (pe_and (pe_cmpR op_gt (pv 2) pe_int (nomark _)) (pe_one (pe_d D_is_tree_at hc (hr.mono (by omega)) (by rfl) (fun _ => passN) (pa_cons (pv 0) (pa_cons (pe_k (by rfl) T.g_WHOLE) (pa_cons (pe_op op_sub (pv 2) pe_int) pa_nil)))))))) pss_nil)
 (pss_cons (ps_if (PW.pt (pw_or (pt_cmpR op_eq (pv 3) pe_str (nomark _)) (pw_or1 (pt_cmpR op_eq (pv 3) pe_str (nomark _)))))
  (pss_one (ps_ret (pe_cmpR op_eq (pe_callB call_len_seq (by rfl) T.z_len (by decide +kernel) (pa_cons (pv 0) pa_nil)) pe_int (nomark _)))) pss_nil)
 (pss_cons (ps_if (pt_cmpR op_ne (pe_callB call_len_seq (by rfl) T.z_len (by decide +kernel) (pa_cons (pv 0) pa_nil)) pe_int (nomark _))
  (pss_one (ps_ret pe_bl)) pss_nil)
 (pss_cons (ps_if (pt_cmpR op_eq (pv 3) pe_str (nomark _))
  (pss_one (ps_ret (pe_d D_is_letter hc (hr.mono (by omega)) (by rfl) (fun _ => passN) (pa_cons (pe_ix ix_tup (pv 0) pe_int (fun _ _ => rfl)) pa_nil)))) pss_nil)
 (pss_cons (ps_if (pt_cmpR op_eq (pv 3) pe_str (nomark _))
  (pss_one (ps_ret (pe_d D_is_name hc (hr.mono (by omega)) (by rfl) (fun _ => passN) (pa_cons (pe_ix ix_tup (pv 0) pe_int (fun _ _ => rfl)) pa_nil)))) pss_nil)
 (pss_cons (ps_if (pt_cmpR (op_in_kd T.d_SIGNS_BY_KIND) (pv 3) (pe_k (by rfl) T.g_SIGNS_BY_KIND) (by rfl))
  (pss_one (ps_ret (pe_d D_is_tree_at hc (hr.mono (by omega)) (by rfl) (fun _ => passN) (pa_cons (pe_ix ix_tup (pv 0) pe_int (fun _ _ => rfl)) (pa_cons (pe_d D_place_inside hc (hr.mono (by omega)) (by rfl) (fun _ => passN) (pa_cons (pv 3) pa_nil)) (pa_cons (pv 2) pa_nil)))))) pss_nil)
 (pss_one (ps_ret (pe_and (pe_cmpR op_in_seq (pv 3) (pe_k (by rfl) T.g_LISTED) (by rfl)) (pe_one (pe_d D_are_trees_at hc (hr.mono (by omega)) (by rfl) (fun _ => passN) (pa_cons (pe_ix ix_tup (pv 0) pe_int (fun _ _ => rfl)) (pa_cons (pe_d D_place_inside hc (hr.mono (by omega)) (by rfl) (fun _ => passN) (pa_cons (pv 3) pa_nil)) (pa_cons (pv 2) pa_nil)))))))))))))))), ?_⟩
  have sz := sizeLine_eq
  have kt := hd.tuped
  refine ⟨_, rfl, v, "tuple", rfl, .inr (.inr (.inr (.inr (.inl rfl)))), hd.pv, _, rfl, ?_⟩
  rw [kt]
  cases hd with
  | tup ha hl =>
    rename_i a xs ds
    have hq := SqT.of (K := K) ha
    refine iteF ⟨_, rfl, a, _, rfl, .inr hq, rfl, _, rfl, ?_⟩
    cases hl with
    | nil =>
      cases tb with
      | noT h => exact absurd rfl (h _)
      | nil => exact iteT (q _ (Same.refl H))
    | cons h1 hl =>
    rename_i v1 vs d1 ds
    refine iteB (fun c => ?_) (fun _ => ?_)
    · have c1 := of_decide_eq_true c
      injection c1 with c1
      rw [List.length_cons] at c1
      omega
    refine ⟨_, rfl, a, _, _, _, rfl, rfl, hq, atI_nat (j := 0) rfl, v1, "str", rfl, .inr (.inl rfl), h1.pv, _, rfl, ?_⟩
    rw [h1.strd]
    have nos : (∀ x, d1 ≠ .str x) → b = false := fun no => by
      cases tb with
      | noT h => exact absurd rfl (h _)
      | noS _ => rfl
      | _ => exact absurd rfl (no _)
    cases h1 with
    | str x =>
      refine iteF ⟨_, rfl, a, _, _, _, rfl, rfl, hq, atI_nat (j := 0) rfl, ?_⟩
      obtain ⟨kx, cs⟩ := tb.inv
      refine ⟨_, rfl, _, rfl, x, p, rfl, kx, _, rfl, ?_⟩
      rcases cs with ⟨e, cs⟩ | ⟨e, cs⟩
      · rw [e]
        refine iteT ⟨_, rfl, _, _, rfl, rfl, _, rfl, ?_⟩
        rcases cs with ⟨l, rfl⟩ | ⟨l, k, rfl, t⟩
        · have e0 : decide (0 < r) = false := decide_eq_false (by omega)
          rw [e0]
          exact iteF (q _ (Same.refl H))
        · have e0 : decide (0 < r) = true := decide_eq_true l
          rw [e0]
          exact iteT ⟨_, rfl, _, rfl, _, _, rfl, rfl, .ref a, _, 0, r - 1, b, k, rfl, .tup ha (.cons (.str x) hl), t, by omega, q⟩
      rw [e]
      have lh := hl.length
      have len1 : decide (V.int (((V.str x :: vs).length : Nat) : Int) = V.int 1) = decide (ds.length = 0) := decide_eq_decide.mpr ⟨fun z => by injection z with z; rw [List.length_cons] at z; omega, fun z => by rw [List.length_cons, ← lh, z]; rfl⟩
      have len2 : (!decide (V.int (((V.str x :: vs).length : Nat) : Int) = V.int 2)) = !decide (ds.length = 1) := by
        congr 1
        exact decide_eq_decide.mpr ⟨fun z => by injection z with z; rw [List.length_cons] at z; omega, fun z => by rw [List.length_cons, ← lh, z]; rfl⟩
      obtain ⟨rs, hr1, hr2⟩ := sgn_at T kx
      refine iteF ⟨_, rfl, rfl, _, rfl, ?_⟩
      rw [strEq]
      rcases cs with ⟨rfl | rfl, rfl⟩ | ⟨n1, n2, l, rfl⟩ | ⟨d, rfl, cs⟩
      · refine iteB (fun _ => iteT ⟨_, rfl, a, _, rfl, .inr hq, rfl, ?_⟩) (fun c => absurd rfl (of_decide_eq_false c))
        show Q (.bl (decide (V.int (((V.str sNone :: vs).length : Nat) : Int) = V.int 1))) H
        rw [len1]
        exact q _ (Same.refl H)
      · refine iteB (fun c => absurd (of_decide_eq_true c) (by decide +kernel)) (fun _ => ⟨_, rfl, rfl, _, rfl, ?_⟩)
        rw [strEq]
        refine iteB (fun _ => ⟨_, rfl, a, _, rfl, .inr hq, rfl, ?_⟩) (fun c => absurd rfl (of_decide_eq_false c))
        show Q (.bl (decide (V.int (((V.str sEmpty :: vs).length : Nat) : Int) = V.int 1))) H
        rw [len1]
        exact q _ (Same.refl H)
      · refine iteB (fun c => absurd (of_decide_eq_true c) n1) (fun _ => ⟨_, rfl, rfl, _, rfl, ?_⟩)
        rw [strEq]
        refine iteB (fun c => absurd (of_decide_eq_true c) n2) (fun _ => ⟨_, rfl, a, _, rfl, .inr hq, rfl, _, rfl, ?_⟩)
        show if (!decide (V.int (((V.str x :: vs).length : Nat) : Int) = V.int 2)) = true then _ else _
        rw [len2, decide_eq_false l]
        exact iteT (q _ (Same.refl H))
      have dist : x ≠ sNone ∧ x ≠ sEmpty := by
        have m : ∀ y ∈ [sLetter, sName, sSeq, sCho] ++ odd3, y ≠ sNone ∧ y ≠ sEmpty := by decide +kernel
        have m3 : ∀ j : Fin 3, sSgn j ≠ sNone ∧ sSgn j ≠ sEmpty := by decide +kernel
        rcases cs with ⟨rfl, _⟩ | ⟨rfl, _⟩ | ⟨j, _, rfl, _⟩ | ⟨h, _⟩ | ⟨_, rfl | rfl, _⟩
        · exact m _ (by decide +kernel)
        · exact m _ (by decide +kernel)
        · exact m3 j
        · exact m _ (List.mem_append_right _ h)
        · exact m _ (by decide +kernel)
        · exact m _ (by decide +kernel)
      refine iteB (fun c => absurd (of_decide_eq_true c) dist.1) (fun _ => ⟨_, rfl, rfl, _, rfl, ?_⟩)
      rw [strEq]
      refine iteB (fun c => absurd (of_decide_eq_true c) dist.2) (fun _ => ⟨_, rfl, a, _, rfl, .inr hq, rfl, _, rfl, ?_⟩)
      show if (!decide (V.int (((V.str x :: vs).length : Nat) : Int) = V.int 2)) = true then _ else _
      rw [len2]
      refine iteF ?_
      cases hl with
      | cons h2 hl =>
      cases hl with
      | nil =>
      refine ⟨_, rfl, rfl, _, rfl, ?_⟩
      rw [strEq]
      refine iteB (fun c => ?_) (fun c => ?_)
      · have c := of_decide_eq_true c
        rcases cs with ⟨_, sh, rfl⟩ | ⟨e, _⟩ | ⟨j, _, e, _⟩ | ⟨h, _⟩ | ⟨_, e | e, _⟩
        · exact ⟨_, rfl, a, _, _, _, rfl, rfl, hq, atI_nat (j := 1) rfl, _, rfl, h2.pv, h2.short sh, fun H' s => by rw [h2.letd]; exact q H' s⟩
        · exact absurd (e.symm.trans c) (by decide +kernel)
        · exact absurd (e.symm.trans c) ((by decide +kernel : ∀ j : Fin 3, ¬ sSgn j = "letter") j)
        · exact absurd (c ▸ h) (by decide +kernel)
        · exact absurd (e.symm.trans c) (by decide +kernel)
        · exact absurd (e.symm.trans c) (by decide +kernel)
      replace c := of_decide_eq_false c
      refine ⟨_, rfl, rfl, _, rfl, ?_⟩
      rw [strEq]
      refine iteB (fun c2 => ?_) (fun c2 => ?_)
      · have c2 := of_decide_eq_true c2
        rcases cs with ⟨e, _⟩ | ⟨_, sh, rfl⟩ | ⟨j, _, e, _⟩ | ⟨h, _⟩ | ⟨_, e | e, _⟩
        · exact absurd (e.symm.trans c2) (by decide +kernel)
        · exact ⟨_, rfl, a, _, _, _, rfl, rfl, hq, atI_nat (j := 1) rfl, _, rfl, h2.pv, h2.short sh, fun H' s => by rw [h2.namd]; exact q H' s⟩
        · exact absurd (e.symm.trans c2) ((by decide +kernel : ∀ j : Fin 3, ¬ sSgn j = "name") j)
        · exact absurd (c2 ▸ h) (by decide +kernel)
        · exact absurd (e.symm.trans c2) (by decide +kernel)
        · exact absurd (e.symm.trans c2) (by decide +kernel)
      replace c2 := of_decide_eq_false c2
      refine ⟨_, rfl, _, rs, rfl, rfl, hr1, _, rfl, ?_⟩
      rw [hr2]
      rcases cs with ⟨e, _⟩ | ⟨e, _⟩ | ⟨j, k, rfl, rfl, t⟩ | ⟨h, rfl⟩ | ⟨k, h, rfl, t⟩
      · exact absurd e c
      · exact absurd e c2
      · have e1 : isSgnS (sSgn j) = true := (by decide +kernel : ∀ j : Fin 3, isSgnS (sSgn j) = true) j
        have e2 : placeS (sSgn j) = 3 := (by decide +kernel : ∀ j : Fin 3, placeS (sSgn j) = 3) j
        rw [e1]
        refine iteT ⟨_, rfl, a, _, _, _, rfl, rfl, hq, atI_nat (j := 1) rfl, _, rfl, _, rfl, _, rfl, _, d, placeS (sSgn j), r, b, k, rfl, h2, by rw [e2]; exact t, by omega, q⟩
      · have e1 : isSgnS x = false := by
          have : ∀ y ∈ odd3, isSgnS y = false := by decide +kernel
          exact this x h
        have e2 : inV (.str x) [V.str sSeq, V.str sCho] = false := by
          have : ∀ y ∈ odd3, inV (.str y) [V.str sSeq, V.str sCho] = false := by decide +kernel
          exact this x h
        rw [e1]
        refine iteF ⟨_, rfl, aL, _, rfl, .inr (T.q_LISTED H), rfl, rfl, _, rfl, ?_⟩
        rw [e2]
        exact iteF (q _ (Same.refl H))
      · have e1 : isSgnS x = false := by rcases h with rfl | rfl <;> decide +kernel
        have e2 : inV (.str x) [V.str sSeq, V.str sCho] = true := by rcases h with rfl | rfl <;> decide +kernel
        rw [e1]
        refine iteF ⟨_, rfl, aL, _, rfl, .inr (T.q_LISTED H), rfl, rfl, _, rfl, ?_⟩
        rw [e2]
        exact iteT ⟨_, rfl, a, _, _, _, rfl, rfl, hq, atI_nat (j := 1) rfl, _, rfl, x, rfl, _, rfl, _, d, placeS x, r, b, k, rfl, h2, t, by omega, q⟩
    | _ =>
      have := nos (fun x z => nomatch z)
      subst this
      exact iteT (q _ (Same.refl H))
  | _ =>
    cases tb with
    | noT _ => exact iteT (q _ (Same.refl H))
end
end KT

set_option maxHeartbeats 4000000
namespace KT
open PySem L2 Gd
theorem low128 {c : Nat} (h : low c = true) : c < 128 := by
  unfold low at h
  rw [Bool.and_eq_true, decide_eq_true_eq, decide_eq_true_eq] at h
  omega
/-! ### trees compared -/
mutual
/-- a tree as data -/
def dT : Tr → PyData
  | .none => .tuple [.str sNone]
  | .empty => .tuple [.str sEmpty]
  | .letter c => .tuple [.str sLetter, .str ⟨#[c]⟩]
  | .name x => .tuple [.str sName, .str x]
  | .sgn k t => .tuple [.str (sSgn k), dT t]
  | .seq l => .tuple [.str sSeq, .list (dTs l)]
  | .cho l => .tuple [.str sCho, .list (dTs l)]
def dTs : List Tr → List PyData
  | [] => []
  | t :: l => dT t :: dTs l
end
section
variable {K : PySem.W.Frag} {H : Hp}
mutual
theorem dp_tree : ∀ {v : V} {t : Tr}, TrAt H v t → Dp K H v (dT t)
  | _, _, .none h => by rw [dT]; exact .tup (SqT.of h) (.cons (.str _) .nil)
  | _, _, .empty h => by rw [dT]; exact .tup (SqT.of h) (.cons (.str _) .nil)
  | _, _, .letter h => by rw [dT]; exact .tup (SqT.of h) (.cons (.str _) (.cons (.str _) .nil))
  | _, _, .name h => by rw [dT]; exact .tup (SqT.of h) (.cons (.str _) (.cons (.str _) .nil))
  | _, _, .sgn h t => by rw [dT]; exact .tup (SqT.of h) (.cons (.str _) (.cons (dp_tree t) .nil))
  | _, _, .seq h g t => by rw [dT]; exact .tup (SqT.of h) (.cons (.str _) (.cons (.lst (SqL.of g) (dp_trees t)) .nil))
  | _, _, .cho h g t => by rw [dT]; exact .tup (SqT.of h) (.cons (.str _) (.cons (.lst (SqL.of g) (dp_trees t)) .nil))
theorem dp_trees : ∀ {vs : List V} {ts : List Tr}, TrsAt H vs ts → DpAll K H vs (dTs ts)
  | _, _, .nil => by rw [dTs]; exact .nil
  | _, _, .cons h r => by rw [dTs]; exact .cons (dp_tree h) (dp_trees r)
end
end
theorem tx_ok {n : Nat} {x : Str} (h : Tx n x) : PyData.strOk x = true := by
  unfold PyData.strOk
  rw [Array.all_eq_true_iff_forall_mem]
  intro c hc
  have := h.asc c (by simpa using hc)
  exact decide_eq_true (by omega)
theorem kd_ok : PyData.strOk sNone = true ∧ PyData.strOk sEmpty = true ∧ PyData.strOk sLetter = true ∧ PyData.strOk sName = true ∧ PyData.strOk sSeq = true ∧ PyData.strOk sCho = true ∧ ∀ k : _root_.Fin 3, PyData.strOk (sSgn k) = true := by decide +kernel
mutual
theorem dT_ok : ∀ t : Tr, t.Wf → (dT t).canLay0 = true ∧ (dT t).depth ≤ 2 * t.height
  | .none, _ => by rw [dT]; exact ⟨by simp [PyData.canLay0, PyData.canLayAll0, kd_ok], by show max 0 0 + 1 ≤ 2 * 1; decide⟩
  | .empty, _ => by rw [dT]; exact ⟨by simp [PyData.canLay0, PyData.canLayAll0, kd_ok], by show max 0 0 + 1 ≤ 2 * 1; decide⟩
  | .letter c, h => by
    rw [dT]
    have hc := tx_ok (sgn1 c (low128 h))
    exact ⟨by simp [PyData.canLay0, PyData.canLayAll0, kd_ok, hc], by show max 0 (max 0 0) + 1 ≤ 2 * 1; decide⟩
  | .name x, h => by
    rw [dT]
    have hc := tx_ok h.1
    exact ⟨by simp [PyData.canLay0, PyData.canLayAll0, kd_ok, hc], by show max 0 (max 0 0) + 1 ≤ 2 * 1; decide⟩
  | .sgn k u, h => by
    obtain ⟨a, b⟩ := dT_ok u h
    rw [dT]
    refine ⟨by simp [PyData.canLay0, PyData.canLayAll0, kd_ok, a], ?_⟩
    show max 0 (max (dT u).depth 0) + 1 ≤ 2 * (u.height + 1)
    omega
  | .seq l, h => by
    obtain ⟨a, b⟩ := dTs_ok l h.2.2
    rw [dT]
    refine ⟨by simp [PyData.canLay0, PyData.canLayAll0, kd_ok, a], ?_⟩
    show max 0 (max (PyData.depthAll (dTs l) + 1) 0) + 1 ≤ 2 * (heights l + 1)
    omega
  | .cho l, h => by
    obtain ⟨a, b⟩ := dTs_ok l h.2.2
    rw [dT]
    refine ⟨by simp [PyData.canLay0, PyData.canLayAll0, kd_ok, a], ?_⟩
    show max 0 (max (PyData.depthAll (dTs l) + 1) 0) + 1 ≤ 2 * (heights l + 1)
    omega
theorem dTs_ok : ∀ l : List Tr, Wfs l → PyData.canLayAll0 (dTs l) = true ∧ PyData.depthAll (dTs l) ≤ 2 * heights l
  | [], _ => by rw [dTs]; exact ⟨rfl, Nat.zero_le _⟩
  | t :: l, h => by
    obtain ⟨a, b⟩ := dT_ok t h.1
    obtain ⟨c, d⟩ := dTs_ok l h.2
    rw [dTs]
    refine ⟨by simp [PyData.canLayAll0, a, c], ?_⟩
    show max (dT t).depth (PyData.depthAll (dTs l)) ≤ 2 * max t.height (heights l)
    omega
end
end KT

set_option maxHeartbeats 1000000
namespace KT
open PySem L2 Gd KM
mutual
theorem TB.mono : ∀ {n m : Nat} {d : PyData} {p r : Int} {b : Bool}, TB n d p r b → n ≤ m → TB m d p r b
  | _, _, _, _, _, _, .noT h, _ => .noT h
  | _, _, _, _, _, _, .nil, _ => .nil
  | _, _, _, _, _, _, .noS h, _ => .noS h
  | _, _, _, _, _, _, .shut k e l, _ => .shut k e l
  | _, m + 1, _, _, _, _, .par k e l t, h => .par k e l (TB.mono t (Nat.le_of_succ_le_succ h))
  | _, _, _, _, _, _, .leaf k e, _ => .leaf k e
  | _, _, _, _, _, _, .many k e a c l, _ => .many k e a c l
  | _, _, _, _, _, _, .letter s, _ => .letter s
  | _, _, _, _, _, _, .name s, _ => .name s
  | _, m + 1, _, _, _, _, .sgn e t, h => .sgn e (TB.mono t (Nat.le_of_succ_le_succ h))
  | _, _, _, _, _, _, .odd h, _ => .odd h
  | _, m + 1, _, _, _, _, .lst k e t, h => .lst k e (TBv.mono t (Nat.le_of_succ_le_succ h))
theorem TBv.mono : ∀ {n m : Nat} {d : PyData} {p r : Int} {b : Bool}, TBv n d p r b → n ≤ m → TBv m d p r b
  | _, _, _, _, _, _, .noL h, _ => .noL h
  | _, _, _, _, _, _, .few h l, _ => .few h l
  | _, m + 1, _, _, _, _, .all h l k t, e => .all h l k (TBs.mono t (Nat.le_of_succ_le_succ e))
theorem TBs.mono : ∀ {n m : Nat} {ds : List PyData} {p r : Int} {b : Bool}, TBs n ds p r b → n ≤ m → TBs m ds p r b
  | _, _, _, _, _, _, .nil, _ => .nil
  | _, _, _, _, _, _, .no t, e => .no (TB.mono t e)
  | _, _, _, _, _, _, .yes t r, e => .yes (TB.mono t e) (TBs.mono r e)
end
/-! ### the heap without one thing -/
def wof (p : Addr) (H : Hp) : Hp := fun b => if b = p then none else H b
theorem wof_same {p : Addr} {H H' : Hp} (s : Same H H') : Same (wof p H) (wof p H') := fun b o h => by
  unfold wof at h ⊢
  by_cases e : b = p
  · rw [if_pos e] at h; exact nomatch h
  · rw [if_neg e] at h ⊢
    exact s b o h
theorem wof_sub {p : Addr} {H : Hp} : Same (wof p H) H := fun b o h => by
  unfold wof at h
  by_cases e : b = p
  · rw [if_pos e] at h; exact nomatch h
  · rw [if_neg e] at h; exact h
theorem wof_at {p b : Addr} {H : Hp} {o : HO} (h : H b = some o) (n : b ≠ p) : wof p H b = some o := by
  unfold wof
  rw [if_neg n]
  exact h
theorem wof_self {p : Addr} {H : Hp} : wof p H p = none := if_pos rfl
theorem wof_upd {p : Addr} {H : Hp} {o : HO} : wof p (upd H p o) = wof p H := by
  funext b
  unfold wof
  by_cases e : b = p
  · rw [if_pos e, if_pos e]
  · rw [if_neg e, if_neg e, upd_ne e]
/-- what a value's own list or dict holds does not hold it -/
def Top (K : PySem.W.Frag) (H : Hp) (v : V) (d : PyData) : Prop :=
  (∃ ds, d = .tuple ds) ∨ (∀ a, v ≠ .ref a) ∨ (∃ a xs ds, v = .ref a ∧ H a = some (.lst xs) ∧ d = .list ds ∧ DbL K (wof a H) xs ds) ∨ ∃ a, v = .ref a ∧ H a = some (.dK []) ∧ d = .dict []
theorem Top.same {K : PySem.W.Frag} {H H' : Hp} {v : V} {d : PyData} (s : Same H H') : Top K H v d → Top K H' v d
  | .inl h => .inl h
  | .inr (.inl h) => .inr (.inl h)
  | .inr (.inr (.inl ⟨a, xs, ds, e, h, e2, hl⟩)) => .inr (.inr (.inl ⟨a, xs, ds, e, s _ _ h, e2, hl.same (wof_same s)⟩))
  | .inr (.inr (.inr ⟨a, e, h, e2⟩)) => .inr (.inr (.inr ⟨a, e, s _ _ h, e2⟩))
/-! ### a tree of the text -/
theorem dTs_len : ∀ l : List Tr, (dTs l).length = l.length
  | [] => by rw [dTs]; rfl
  | t :: l => by rw [dTs, List.length_cons, List.length_cons, dTs_len l]
theorem needs_kind (t : Tr) (p : Int) : needsS t.kind p = needs t p := by
  have e3 : ∀ k : Fin 3, sSgn k ≠ sCho ∧ ¬ (sSgn k = sSeq ∨ sSgn k = sEmpty) ∧ isSgnS (sSgn k) = true := by decide +kernel
  have fin : ∀ x : Str, x ≠ sCho → ¬ (x = sSeq ∨ x = sEmpty) → ∀ b, isSgnS x = b → needsS x p = (b && decide (p = 3)) := fun x a c b e => by
    unfold needsS
    rw [if_neg a, if_neg c, e]
  have two : ∀ x : Str, x ≠ sCho → (x = sSeq ∨ x = sEmpty) → needsS x p = decide (2 ≤ p) := fun x a c => by
    unfold needsS
    rw [if_neg a, if_pos c]
  cases t with
  | none => exact fin sNone (by decide +kernel) (by decide +kernel) false (by decide +kernel)
  | empty => exact two sEmpty (by decide +kernel) (by decide +kernel)
  | letter c => exact fin sLetter (by decide +kernel) (by decide +kernel) false (by decide +kernel)
  | name c => exact fin sName (by decide +kernel) (by decide +kernel) false (by decide +kernel)
  | sgn k u =>
    obtain ⟨a, b, c⟩ := e3 k
    have := fin (sSgn k) a b true c
    rw [Bool.true_and] at this
    exact this
  | seq l => exact two sSeq (by decide +kernel) (by decide +kernel)
  | cho l =>
    show needsS sCho p = decide (1 ≤ p)
    unfold needsS
    rw [if_pos rfl]
theorem pd_sub {t : Tr} {p r : Int} (h : needs t p = true) (hr : 0 < r) : decide ((pd t : Int) ≤ r - 1) = decide ((pdA t p : Int) ≤ r) := by
  have : pdA t p = pd t + 1 := by
    unfold pdA
    rw [h]
    exact Nat.add_comm _ _
  exact decide_eq_decide.mpr (by omega)
theorem kind_in (t : Tr) : t.kind ∈ kds := by
  have m3 : ∀ k : Fin 3, sSgn k ∈ kds := by decide +kernel
  cases t with
  | sgn k u => exact m3 k
  | none => show sNone ∈ kds; decide +kernel
  | empty => show sEmpty ∈ kds; decide +kernel
  | letter c => show sLetter ∈ kds; decide +kernel
  | name c => show sName ∈ kds; decide +kernel
  | seq l => show sSeq ∈ kds; decide +kernel
  | cho l => show sCho ∈ kds; decide +kernel
theorem dT_tup (t : Tr) : ∃ ds, dT t = .tuple (.str t.kind :: ds) := by
  cases t <;> exact ⟨_, by rw [dT]; rfl⟩
/-- from the answer where no parentheses are asked for to any place -/
theorem tb_any {t : Tr} {ds : List PyData} {n : Nat} {f : Int → Bool} (e : ∃ es, ds = es) (body : ∀ r, 0 ≤ r → ∀ p, needs t p = false → TB n (.tuple (.str t.kind :: ds)) p r (f r)) (p r : Int) (hr : 0 ≤ r) :
    TB (n + 1) (.tuple (.str t.kind :: ds)) p r (if needs t p = true then (if 0 < r then f (r - 1) else false) else f r) := by
  cases h : needs t p with
  | false =>
    rw [if_neg Bool.false_ne_true]
    exact (body r hr p h).mono (Nat.le_succ _)
  | true =>
    rw [if_pos rfl]
    by_cases l : 0 < r
    · rw [if_pos l]
      exact .par (kind_in t) ((needs_kind t p).trans h) l (body (r - 1) (by omega) 0 (by cases t <;> rfl))
    · rw [if_neg l]
      exact .shut (kind_in t) ((needs_kind t p).trans h) (by omega)
mutual
/-- a tree: it is one where its parentheses have room -/
theorem tb_tree : ∀ (t : Tr), t.Wf → ∀ p r : Int, 0 ≤ r → TB (3 * t.height) (dT t) p r (decide ((pdA t p : Int) ≤ r))
  | t, hw, p, r, hr => by
    have core : ∀ n ds, dT t = .tuple (.str t.kind :: ds) → n + 1 = 3 * t.height → (∀ r, 0 ≤ r → ∀ p, needs t p = false → TB n (.tuple (.str t.kind :: ds)) p r (decide ((pd t : Int) ≤ r))) → TB (3 * t.height) (dT t) p r (decide ((pdA t p : Int) ≤ r)) := fun n ds e1 e2 h => by
      have := tb_any (f := fun r => decide ((pd t : Int) ≤ r)) ⟨ds, rfl⟩ h p r hr
      rw [e1, ← e2]
      cases hn : needs t p with
      | false =>
        rw [hn, if_neg Bool.false_ne_true] at this
        have e : pdA t p = pd t := by
          unfold pdA
          rw [hn]
          exact Nat.zero_add _
        rw [e]
        exact this
      | true =>
        rw [hn, if_pos rfl] at this
        by_cases l : 0 < r
        · rw [if_pos l, pd_sub hn l] at this
          exact this
        · rw [if_neg l] at this
          have e : pdA t p = pd t + 1 := by
            unfold pdA
            rw [hn]
            exact Nat.add_comm _ _
          rw [decide_eq_false (by omega)]
          exact this
    match t, hw, core with
    | .none, _, core =>
      refine core 2 [] (by rw [dT]; rfl) rfl fun r hr p hn => ?_
      rw [decide_eq_true (by rw [pd]; exact hr)]
      exact .leaf (.inl rfl) ((needs_kind .none p).trans hn)
    | .empty, _, core =>
      refine core 2 [] (by rw [dT]; rfl) rfl fun r hr p hn => ?_
      rw [decide_eq_true (by rw [pd]; exact hr)]
      exact .leaf (.inr rfl) ((needs_kind .empty p).trans hn)
    | .letter c, hw, core =>
      refine core 2 [.str ⟨#[c]⟩] (by rw [dT]; rfl) rfl fun r hr p hn => ?_
      rw [decide_eq_true (by rw [pd]; exact hr)]
      have lc : low c = true := hw
      have e : isLetD (.str ⟨#[c]⟩) = true := by
        show (decide (({ cps := #[c] } : Str).length = 1) && (low c && true)) = true
        rw [lc]
        rfl
      have l2 := lc
      unfold low at l2
      rw [Bool.and_eq_true, decide_eq_true_eq, decide_eq_true_eq] at l2
      have := TB.letter (n := 2) (d := .str ⟨#[c]⟩) (p := p) (r := r) fun x ex => by
        cases ex
        exact ⟨by show 1 ≤ 100000; decide, fun d hd => by
          have : d = c := by simpa using hd
          omega⟩
      rw [e] at this
      exact this
    | .name x, hw, core =>
      refine core 2 [.str x] (by rw [dT]; rfl) rfl fun r hr p hn => ?_
      rw [decide_eq_true (by rw [pd]; exact hr)]
      obtain ⟨w1, w2, w3⟩ : Tx 8 x ∧ 1 ≤ x.length ∧ x.cps.toList.all low = true := hw
      have e : isNamD (.str x) = true := by
        show (decide (1 ≤ x.length) && (decide (x.length ≤ 8) && x.cps.toList.all low)) = true
        rw [w3, decide_eq_true w2, decide_eq_true w1.len]
        rfl
      have := TB.name (n := 2) (d := .str x) (p := p) (r := r) fun y ey => by
        cases ey
        exact w1.mono (by decide)
      rw [e] at this
      exact this
    | .sgn k u, hw, core =>
      have ih := tb_tree u hw
      refine core (3 * u.height + 2) [dT u] (by rw [dT]; rfl) (by show _ = 3 * (u.height + 1); omega) fun r hr p hn => ?_
      have e : pd (.sgn k u) = pdA u 3 := by rw [pd]; rfl
      rw [e]
      exact .sgn ((needs_kind (.sgn k u) p).trans hn) ((ih 3 r hr).mono (by omega))
    | .seq l, hw, core =>
      have ih := tb_trees l hw.2.2
      refine core (3 * heights l + 2) [.list (dTs l)] (by rw [dT]; rfl) (by show _ = 3 * (heights l + 1); omega) fun r hr p hn => ?_
      have e : pd (.seq l) = pds l 2 := by rw [pd]
      rw [e]
      exact .lst (.inl rfl) ((needs_kind (.seq l) p).trans hn) (.all rfl (by show 2 ≤ (dTs l).length; rw [dTs_len]; exact hw.1) (by show (dTs l).length ≤ 100000; rw [dTs_len]; exact hw.2.1) (ih 2 r hr))
    | .cho l, hw, core =>
      have ih := tb_trees l hw.2.2
      refine core (3 * heights l + 2) [.list (dTs l)] (by rw [dT]; rfl) (by show _ = 3 * (heights l + 1); omega) fun r hr p hn => ?_
      have e : pd (.cho l) = pds l 1 := by rw [pd]
      rw [e]
      exact .lst (.inr rfl) ((needs_kind (.cho l) p).trans hn) (.all rfl (by show 2 ≤ (dTs l).length; rw [dTs_len]; exact hw.1) (by show (dTs l).length ≤ 100000; rw [dTs_len]; exact hw.2.1) (ih 1 r hr))
theorem tb_trees : ∀ (l : List Tr), Wfs l → ∀ p r : Int, 0 ≤ r → TBs (3 * heights l) (dTs l) p r (decide ((pds l p : Int) ≤ r))
  | [], _, p, r, hr => by
    rw [dTs, decide_eq_true (by rw [pds]; exact hr)]
    exact .nil
  | t :: l, hw, p, r, hr => by
    have hh : heights (t :: l) = max t.height (heights l) := by rw [heights]
    have h1 := (tb_tree t hw.1 p r hr).mono (show 3 * t.height ≤ 3 * heights (t :: l) by omega)
    have h2 := (tb_trees l hw.2 p r hr).mono (show 3 * heights l ≤ 3 * heights (t :: l) by omega)
    have e : pds (t :: l) p = max (pdA t p) (pds l p) := by rw [pds]; rfl
    rw [dTs, e]
    by_cases c : (pdA t p : Int) ≤ r
    · rw [decide_eq_true c] at h1
      rw [show decide (((max (pdA t p) (pds l p) : Nat) : Int) ≤ r) = decide ((pds l p : Int) ≤ r) from decide_eq_decide.mpr (by omega)]
      exact .yes h1 h2
    · rw [decide_eq_false c] at h1
      rw [decide_eq_false (by omega)]
      exact .no h1
end
end KT

namespace KT
open PySem L2 Gd KM
/-- no tree, at any place with any room -/
def NoTr (n : Nat) (d : PyData) : Prop := ∀ p r : Int, 0 ≤ r → TB n d p r false
mutual
/-- one part replaced -/
inductive PutR (bad : PyData) : Tr → PyData → Prop
  | here {t : Tr} : PutR bad t bad
  | sgn {k : Fin 3} {u : Tr} {d : PyData} : PutR bad u d → PutR bad (.sgn k u) (.tuple [.str (sSgn k), d])
  | seq {l : List Tr} {ds : List PyData} : PutL bad l ds → PutR bad (.seq l) (.tuple [.str sSeq, .list ds])
  | cho {l : List Tr} {ds : List PyData} : PutL bad l ds → PutR bad (.cho l) (.tuple [.str sCho, .list ds])
inductive PutL (bad : PyData) : List Tr → List PyData → Prop
  | head {t : Tr} {l : List Tr} {d : PyData} : PutR bad t d → PutL bad (t :: l) (d :: dTs l)
  | tail {t : Tr} {l : List Tr} {ds : List PyData} : PutL bad l ds → PutL bad (t :: l) (dT t :: ds)
end
section
variable {bad : PyData}
theorem putL_len : ∀ {l : List Tr} {ds : List PyData}, PutL bad l ds → ds.length = l.length
  | _, _, .head _ => by rw [List.length_cons, List.length_cons, dTs_len]
  | _, _, .tail h => by rw [List.length_cons, List.length_cons, putL_len h]
theorem no_any {t : Tr} {ds : List PyData} {n : Nat} (h : ∀ r, 0 ≤ r → ∀ p, needs t p = false → TB n (.tuple (.str t.kind :: ds)) p r false) : NoTr (n + 1) (.tuple (.str t.kind :: ds)) := fun p r hr => by
  have := tb_any (f := fun _ => false) ⟨ds, rfl⟩ h p r hr
  have e : (if needs t p = true then (if 0 < r then false else false) else false) = false := by
    cases needs t p <;> simp
  rw [e] at this
  exact this
mutual
theorem putR_tb (hb : NoTr 6 bad) : ∀ {t : Tr} {d : PyData}, PutR bad t d → t.Wf → NoTr (3 * t.height + 6) d
  | t, _, .here, _ => fun p r hr => (hb p r hr).mono (by omega)
  | _, _, .sgn (k := k) (u := u) h, hw => by
    have ih := putR_tb hb h hw
    have := no_any (t := .sgn k u) (ds := [_]) (n := 3 * u.height + 6 + 1) fun r hr p hn => .sgn ((needs_kind (.sgn k u) p).trans hn) (ih 3 r hr)
    exact fun p r hr => (this p r hr).mono (by show _ ≤ 3 * (u.height + 1) + 6; omega)
  | _, _, .seq (l := l) (ds := ds) h, hw => by
    have ih := putL_tb hb h hw.2.2
    have e := putL_len h
    have := no_any (t := .seq l) (ds := [.list _]) (n := 3 * heights l + 6 + 1 + 1) fun r hr p hn => .lst (.inl rfl) ((needs_kind (.seq l) p).trans hn) (.all rfl (by show 2 ≤ ds.length; rw [e]; exact hw.1) (by show ds.length ≤ 100000; rw [e]; exact hw.2.1) (ih _ r hr))
    exact fun p r hr => (this p r hr).mono (by show _ ≤ 3 * (heights l + 1) + 6; omega)
  | _, _, .cho (l := l) (ds := ds) h, hw => by
    have ih := putL_tb hb h hw.2.2
    have e := putL_len h
    have := no_any (t := .cho l) (ds := [.list _]) (n := 3 * heights l + 6 + 1 + 1) fun r hr p hn => .lst (.inr rfl) ((needs_kind (.cho l) p).trans hn) (.all rfl (by show 2 ≤ ds.length; rw [e]; exact hw.1) (by show ds.length ≤ 100000; rw [e]; exact hw.2.1) (ih _ r hr))
    exact fun p r hr => (this p r hr).mono (by show _ ≤ 3 * (heights l + 1) + 6; omega)
theorem putL_tb (hb : NoTr 6 bad) : ∀ {l : List Tr} {ds : List PyData}, PutL bad l ds → Wfs l → ∀ p r : Int, 0 ≤ r → TBs (3 * heights l + 6) ds p r false
  | _, _, .head (t := t) (l := l) h, hw => fun p r hr => by
    have hh : heights (t :: l) = max t.height (heights l) := by rw [heights]
    exact .no ((putR_tb hb h hw.1 p r hr).mono (by omega))
  | _, _, .tail (t := t) (l := l) h, hw => fun p r hr => by
    have hh : heights (t :: l) = max t.height (heights l) := by rw [heights]
    have h1 := (tb_tree t hw.1 p r hr).mono (show 3 * t.height ≤ 3 * heights (t :: l) + 6 by omega)
    have h2 := (putL_tb hb h hw.2 p r hr).mono (show 3 * heights l + 6 ≤ 3 * heights (t :: l) + 6 by omega)
    cases c : decide ((pdA t p : Int) ≤ r) with
    | true =>
      rw [c] at h1
      exact .yes h1 h2
    | false =>
      rw [c] at h1
      exact .no h1
end
end
/-! ### written -/
mutual
theorem dT_ok1 : ∀ t : Tr, t.Wf → Ok1 (dT t) ∧ wid (dT t) + 2 ≤ 200 * nd t
  | .none, _ => by
    rw [dT]
    exact ⟨⟨(by decide +kernel : ∀ z ∈ sNone.cps.toList, z < 16 ^ 8), trivial⟩, by show (10 * sNone.length + 2) + 2 + 0 + 3 + 2 ≤ 200 * 1; decide +kernel⟩
  | .empty, _ => by
    rw [dT]
    exact ⟨⟨(by decide +kernel : ∀ z ∈ sEmpty.cps.toList, z < 16 ^ 8), trivial⟩, by show (10 * sEmpty.length + 2) + 2 + 0 + 3 + 2 ≤ 200 * 1; decide +kernel⟩
  | .letter c, h => by
    rw [dT]
    have hc := low128 h
    refine ⟨⟨(by decide +kernel : ∀ z ∈ sLetter.cps.toList, z < 16 ^ 8), fun z hz => ?_, trivial⟩, ?_⟩
    · have hz : z ∈ [c] := hz
      rw [List.mem_singleton.mp hz]
      have : (16 : Nat) ^ 8 = 4294967296 := by decide
      omega
    · show (10 * sLetter.length + 2) + 2 + ((10 * 1 + 2) + 2 + 0) + 3 + 2 ≤ 200 * 1
      decide +kernel
  | .name x, h => by
    rw [dT]
    obtain ⟨w1, w2, w3⟩ : Tx 8 x ∧ 1 ≤ x.length ∧ x.cps.toList.all low = true := h
    have hl := w1.len
    refine ⟨⟨(by decide +kernel : ∀ z ∈ sName.cps.toList, z < 16 ^ 8), fun z hz => ?_, trivial⟩, ?_⟩
    · have := low128 (List.all_eq_true.mp w3 z hz)
      have : (16 : Nat) ^ 8 = 4294967296 := by decide
      omega
    · have e : sName.length = 4 := by decide +kernel
      show (10 * sName.length + 2) + 2 + ((10 * x.length + 2) + 2 + 0) + 3 + 2 ≤ 200 * 1
      omega
  | .sgn k u, h => by
    rw [dT]
    obtain ⟨a, b⟩ := dT_ok1 u h
    have e : ∀ k : Fin 3, (∀ z ∈ (sSgn k).cps.toList, z < 16 ^ 8) ∧ (sSgn k).length ≤ 5 := by decide +kernel
    obtain ⟨e1, e2⟩ := e k
    refine ⟨⟨e1, a, trivial⟩, ?_⟩
    show (10 * (sSgn k).length + 2) + 2 + (wid (dT u) + 2 + 0) + 3 + 2 ≤ 200 * (nd u + 1)
    omega
  | .seq l, h => by
    rw [dT]
    obtain ⟨a, b⟩ := dTs_ok1 l h.2.2
    have e : sSeq.length = 8 := by decide +kernel
    refine ⟨⟨(by decide +kernel : ∀ z ∈ sSeq.cps.toList, z < 16 ^ 8), a, trivial⟩, ?_⟩
    show (10 * sSeq.length + 2) + 2 + ((widL (dTs l) + 2) + 2 + 0) + 3 + 2 ≤ 200 * (nds l + 1)
    omega
  | .cho l, h => by
    rw [dT]
    obtain ⟨a, b⟩ := dTs_ok1 l h.2.2
    have e : sCho.length = 6 := by decide +kernel
    refine ⟨⟨(by decide +kernel : ∀ z ∈ sCho.cps.toList, z < 16 ^ 8), a, trivial⟩, ?_⟩
    show (10 * sCho.length + 2) + 2 + ((widL (dTs l) + 2) + 2 + 0) + 3 + 2 ≤ 200 * (nds l + 1)
    omega
theorem dTs_ok1 : ∀ l : List Tr, Wfs l → OkL (dTs l) ∧ widL (dTs l) ≤ 200 * nds l
  | [], _ => by rw [dTs]; exact ⟨trivial, Nat.zero_le _⟩
  | t :: l, h => by
    rw [dTs]
    obtain ⟨a, b⟩ := dT_ok1 t h.1
    obtain ⟨c, d⟩ := dTs_ok1 l h.2
    refine ⟨⟨a, c⟩, ?_⟩
    show wid (dT t) + 2 + widL (dTs l) ≤ 200 * (nd t + nds l)
    omega
end
mutual
theorem putR_ok {bad : PyData} (h1 : Ok1 bad) (h2 : wid bad ≤ 500) (h3 : bad.depth ≤ 4) : ∀ {t : Tr} {d : PyData}, PutR bad t d → t.Wf → Ok1 d ∧ wid d + 2 ≤ 200 * nd t + 502 ∧ d.depth ≤ 2 * t.height + 4
  | t, _, .here, _ => ⟨h1, by omega, by omega⟩
  | _, _, .sgn (k := k) (u := u) h, hw => by
    obtain ⟨a, b, c⟩ := putR_ok h1 h2 h3 h hw
    have e : ∀ k : Fin 3, (∀ z ∈ (sSgn k).cps.toList, z < 16 ^ 8) ∧ (sSgn k).length ≤ 5 := by decide +kernel
    obtain ⟨e1, e2⟩ := e k
    refine ⟨⟨e1, a, trivial⟩, ?_, ?_⟩
    · show (10 * (sSgn k).length + 2) + 2 + (wid _ + 2 + 0) + 3 + 2 ≤ 200 * (nd u + 1) + 502
      omega
    · show max 0 (max (PyData.depth _) 0) + 1 ≤ 2 * (u.height + 1) + 4
      omega
  | _, _, .seq (l := l) h, hw => by
    obtain ⟨a, b, c⟩ := putL_ok h1 h2 h3 h hw.2.2
    have e : sSeq.length = 8 := by decide +kernel
    refine ⟨⟨(by decide +kernel : ∀ z ∈ sSeq.cps.toList, z < 16 ^ 8), a, trivial⟩, ?_, ?_⟩
    · show (10 * sSeq.length + 2) + 2 + ((widL _ + 2) + 2 + 0) + 3 + 2 ≤ 200 * (nds l + 1) + 502
      omega
    · show max 0 (max (PyData.depthAll _ + 1) 0) + 1 ≤ 2 * (heights l + 1) + 4
      omega
  | _, _, .cho (l := l) h, hw => by
    obtain ⟨a, b, c⟩ := putL_ok h1 h2 h3 h hw.2.2
    have e : sCho.length = 6 := by decide +kernel
    refine ⟨⟨(by decide +kernel : ∀ z ∈ sCho.cps.toList, z < 16 ^ 8), a, trivial⟩, ?_, ?_⟩
    · show (10 * sCho.length + 2) + 2 + ((widL _ + 2) + 2 + 0) + 3 + 2 ≤ 200 * (nds l + 1) + 502
      omega
    · show max 0 (max (PyData.depthAll _ + 1) 0) + 1 ≤ 2 * (heights l + 1) + 4
      omega
theorem putL_ok {bad : PyData} (h1 : Ok1 bad) (h2 : wid bad ≤ 500) (h3 : bad.depth ≤ 4) : ∀ {l : List Tr} {ds : List PyData}, PutL bad l ds → Wfs l → OkL ds ∧ widL ds ≤ 200 * nds l + 502 ∧ PyData.depthAll ds ≤ 2 * heights l + 4
  | _, _, .head (t := t) (l := l) h, hw => by
    have hh : heights (t :: l) = max t.height (heights l) := by rw [heights]
    obtain ⟨a, b, c⟩ := putR_ok h1 h2 h3 h hw.1
    obtain ⟨d, e⟩ := dTs_ok1 l hw.2
    obtain ⟨_, f⟩ := dTs_ok l hw.2
    refine ⟨⟨a, d⟩, ?_, ?_⟩
    · show wid _ + 2 + widL (dTs l) ≤ 200 * (nd t + nds l) + 502
      omega
    · show max (PyData.depth _) (PyData.depthAll (dTs l)) ≤ _
      omega
  | _, _, .tail (t := t) (l := l) h, hw => by
    have hh : heights (t :: l) = max t.height (heights l) := by rw [heights]
    obtain ⟨a, b, c⟩ := putL_ok h1 h2 h3 h hw.2
    obtain ⟨d, e⟩ := dT_ok1 t hw.1
    obtain ⟨_, f⟩ := dT_ok t hw.1
    refine ⟨⟨d, a⟩, ?_, ?_⟩
    · show wid (dT t) + 2 + widL _ ≤ 200 * (nd t + nds l) + 502
      omega
    · show max (PyData.depth (dT t)) (PyData.depthAll _) ≤ _
      omega
end
end KT

namespace KT
open PySem L2 Gd KM
section
variable {K : PySem.W.Frag} {H : Hp}
mutual
theorem db_tree : ∀ {v : V} {t : Tr}, TrAt H v t → Db K H v (dT t)
  | _, _, .none h => by rw [dT]; exact .tup h (.cons (.str _) .nil)
  | _, _, .empty h => by rw [dT]; exact .tup h (.cons (.str _) .nil)
  | _, _, .letter h => by rw [dT]; exact .tup h (.cons (.str _) (.cons (.str _) .nil))
  | _, _, .name h => by rw [dT]; exact .tup h (.cons (.str _) (.cons (.str _) .nil))
  | _, _, .sgn h t => by rw [dT]; exact .tup h (.cons (.str _) (.cons (db_tree t) .nil))
  | _, _, .seq h g t => by rw [dT]; exact .tup h (.cons (.str _) (.cons (.lst g (db_trees t)) .nil))
  | _, _, .cho h g t => by rw [dT]; exact .tup h (.cons (.str _) (.cons (.lst g (db_trees t)) .nil))
theorem db_trees : ∀ {vs : List V} {ts : List Tr}, TrsAt H vs ts → DbL K H vs (dTs ts)
  | _, _, .nil => by rw [dTs]; exact .nil
  | _, _, .cons h r => by rw [dTs]; exact .cons (db_tree h) (db_trees r)
end
end
theorem same_new {H : Hp} {b : Addr} {o : HO} (h : H b = none) : Same H (upd H b o) := fun c u e => by
  rw [upd_ne (ne_of_none e h)]
  exact e
/-- what putting gives: the part with the number l replaced, if there is one -/
def PR (db : PyData) (t : Tr) (l : Int) (d : PyData) (l' : Int) : Prop := (0 ≤ l ∧ l < nd t ∧ PutR db t d ∧ l' < 0) ∨ ((l < 0 ∨ (nd t : Int) ≤ l) ∧ d = dT t ∧ l' = l - nd t)
def PRs (db : PyData) (ts : List Tr) (l : Int) (ds : List PyData) (l' : Int) : Prop := (0 ≤ l ∧ l < nds ts ∧ PutL db ts ds ∧ l' < 0) ∨ ((l < 0 ∨ (nds ts : Int) ≤ l) ∧ ds = dTs ts ∧ l' = l - nds ts)
theorem dTs_app : ∀ l r : List Tr, dTs (l ++ r) = dTs l ++ dTs r
  | [], r => by rw [dTs]; rfl
  | t :: l, r => by rw [List.cons_append, dTs, dTs, dTs_app l r, List.cons_append]
theorem putL_app {db : PyData} {t : Tr} : ∀ {l : List Tr} {ds : List PyData}, PutL db l ds → PutL db (l ++ [t]) (ds ++ [dT t])
  | _, _, .head (t := u) (l := l) h => by
    have e : dTs l ++ [dT t] = dTs (l ++ [t]) := by rw [dTs_app, dTs, dTs]
    rw [List.cons_append, List.cons_append, e]
    exact .head h
  | _, _, .tail h => .tail (putL_app h)
theorem putL_last {db : PyData} {t : Tr} {d : PyData} (h : PutR db t d) : ∀ l : List Tr, PutL db (l ++ [t]) (dTs l ++ [d])
  | [] => by
    rw [dTs]
    have : PutL db [t] (d :: dTs []) := .head h
    rw [dTs] at this
    exact this
  | u :: l => by
    rw [dTs]
    exact .tail (putL_last h l)
theorem PRs.snoc {db : PyData} {ts : List Tr} {t : Tr} {l l1 l2 : Int} {ds : List PyData} {d : PyData} (h : PRs db ts l ds l1) (g : PR db t l1 d l2) : PRs db (ts ++ [t]) l (ds ++ [d]) l2 := by
  have e : nds (ts ++ [t]) = nds ts + nd t := by
    rw [nds_app]
    show nds ts + (nd t + 0) = _
    omega
  have p := nd_pos t
  rcases h with ⟨h1, h2, h3, h4⟩ | ⟨h1, rfl, rfl⟩
  · rcases g with ⟨g1, _⟩ | ⟨_, rfl, rfl⟩
    · omega
    · exact .inl ⟨h1, by rw [e]; omega, putL_app h3, by omega⟩
  · rcases g with ⟨g1, g2, g3, g4⟩ | ⟨g1, rfl, rfl⟩
    · exact .inl ⟨by omega, by rw [e]; omega, putL_last g3 ts, g4⟩
    · refine .inr ⟨by rw [e]; omega, ?_, by rw [e]; omega⟩
      rw [dTs_app, dTs, dTs]
theorem nds_at : ∀ {l : List Tr} {i : Nat} {t : Tr}, l[i]? = some t → nd t ≤ nds l
  | [], _, _, e => nomatch e
  | u :: l, 0, t, e => by
    injection e with e
    subst e
    show nd u ≤ nd u + nds l
    omega
  | u :: l, i + 1, t, e => by
    have := nds_at (l := l) (i := i) e
    show nd t ≤ nd u + nds l
    omega
theorem nds_sum : ∀ l : List Tr, (l.map fun t => ((nd t : Nat) : Int)).sum = ((nds l : Nat) : Int)
  | [] => rfl
  | t :: l => by
    rw [List.map_cons, List.sum_cons, nds_sum l]
    show _ = ((nd t + nds l : Nat) : Int)
    omega
theorem signed_of {u : Tr} (c : inV (.str u.kind) [V.str "many", V.str "some", V.str "maybe"] = true) : ∃ k t, u = .sgn k t := by
  cases u with
  | sgn k u => exact ⟨k, u, rfl⟩
  | none => exact absurd (show inV (.str sNone) [V.str "many", V.str "some", V.str "maybe"] = true from c) (by decide +kernel)
  | empty => exact absurd (show inV (.str sEmpty) [V.str "many", V.str "some", V.str "maybe"] = true from c) (by decide +kernel)
  | letter u => exact absurd (show inV (.str sLetter) [V.str "many", V.str "some", V.str "maybe"] = true from c) (by decide +kernel)
  | name u => exact absurd (show inV (.str sName) [V.str "many", V.str "some", V.str "maybe"] = true from c) (by decide +kernel)
  | seq u => exact absurd (show inV (.str sSeq) [V.str "many", V.str "some", V.str "maybe"] = true from c) (by decide +kernel)
  | cho u => exact absurd (show inV (.str sCho) [V.str "many", V.str "some", V.str "maybe"] = true from c) (by decide +kernel)
/-- what a leaf gives -/
theorem PR.leaf {db : PyData} {t : Tr} {l : Int} (h1 : nd t = 1) (h : l - 1 ≠ -1) : PR db t l (dT t) (l - 1) := .inr ⟨by omega, rfl, by omega⟩
theorem PR.here {db : PyData} {t : Tr} {l : Int} (h : l - 1 = -1) : PR db t l db (l - 1) := .inl ⟨by omega, by have := nd_pos t; omega, .here, by omega⟩
theorem PR.sgn {db : PyData} {k : Fin 3} {u : Tr} {l l' : Int} {d : PyData} (h : l - 1 ≠ -1) (g : PR db u (l - 1) d l') : PR db (.sgn k u) l (.tuple [.str (sSgn k), d]) l' := by
  have e : nd (.sgn k u) = nd u + 1 := rfl
  rcases g with ⟨g1, g2, g3, g4⟩ | ⟨g1, rfl, rfl⟩
  · exact .inl ⟨by omega, by omega, .sgn g3, g4⟩
  · exact .inr ⟨by omega, by rw [dT], by omega⟩
theorem PR.seq {db : PyData} {ts : List Tr} {l l' : Int} {ds : List PyData} (h : l - 1 ≠ -1) (g : PRs db ts (l - 1) ds l') : PR db (.seq ts) l (.tuple [.str sSeq, .list ds]) l' := by
  have e : nd (.seq ts) = nds ts + 1 := rfl
  rcases g with ⟨g1, g2, g3, g4⟩ | ⟨g1, rfl, rfl⟩
  · exact .inl ⟨by omega, by omega, .seq g3, g4⟩
  · exact .inr ⟨by omega, by rw [dT], by omega⟩
theorem PR.cho {db : PyData} {ts : List Tr} {l l' : Int} {ds : List PyData} (h : l - 1 ≠ -1) (g : PRs db ts (l - 1) ds l') : PR db (.cho ts) l (.tuple [.str sCho, .list ds]) l' := by
  have e : nd (.cho ts) = nds ts + 1 := rfl
  rcases g with ⟨g1, g2, g3, g4⟩ | ⟨g1, rfl, rfl⟩
  · exact .inl ⟨by omega, by omega, .cho g3, g4⟩
  · exact .inr ⟨by omega, by rw [dT], by omega⟩
def spPut (K : PySem.W.Frag) (m : Nat) : Sp := fun vs H Q _ => ∃ (G : Hp) (q : Addr) (v bad : V) (t : Tr) (db : PyData) (l : Int), vs = [v, .ref q, bad] ∧ H q = some (.lst [.int l]) ∧ G q = none ∧ Same G H ∧ TrAt G v t ∧ Db K G bad db ∧ t.height ≤ m ∧ nd t ≤ 1000 ∧
  ∀ v' d l' G' H', Same G G' → Same G' H' → G' q = none → H' q = some (.lst [.int l']) → (∀ b o, b ≠ q → H b = some o → H' b = some o) → Db K G' v' d → (∀ c, G c = none → G' c ≠ none → H c = none) → PR db t l d l' → ((v' = bad ∧ d = db) ∨ ∃ ds, d = .tuple ds) → Q v' H'
def spMany (m : Nat) : Sp := fun vs H Q _ => ∃ (v : V) (t : Tr), vs = [v] ∧ TrAt H v t ∧ t.height ≤ m ∧ nd t ≤ 1000 ∧ ∀ H', Same H H' → Q (.int (nd t : Nat)) H'
section
variable {P : Program} {w : World} {K : PySem.W.Frag} {mg : Str → Option Value} {base : Heap} {aS aL : Addr} {es : Array DictEntry} {n : Nat}
abbrev s_law_many : Stmt := top 50
theorem sc_law_many : FnScope ["_law_tree_here", "_law_one"] ["_law_tree_here"] (defScope s_law_many) := ⟨rfl, rfl, rfl, by decide +kernel, rfl, by decide +kernel, by decide +kernel⟩
theorem ok_many {f f1 : Addr} {fd fd1 : FuncData} {m : Nat} (F : Fun K "_law_many" "_law_many" s_law_many f fd) (T : Txt w K mg base aS aL es n) (zsum : mg "sum" = none)
    (D__law_many : Df P w K mg base CX0 m "_law_many" f1 fd1 ["_law_tree_here"] (spMany m)) : FnG P w K mg base CX0 (m + 1) f fd ["_law_tree_here"] (spMany (m + 1)) := by
  refine okG F sc_law_many (fun vs H Q E h => ?_) (fun cdv A outer s H vs Q E hc hr h => ?_)
  · obtain ⟨v, t, rfl, _⟩ := h
    rfl
  obtain ⟨v, t, rfl, ht, hm, hn, q⟩ := h
  refine ⟨_, (pss_cons (ps_if (pt_cmpR op_in_seq (pe_ix ix_tup (pv 0) pe_int (fun _ _ => rfl)) (pe_tup (pa_cons pe_str (pa_cons pe_str pa_nil))) (by rfl))
  (pss_one (ps_ret (pe_op op_add pe_int (pe_callB (cr_sum rfl) (by rfl) zsum (by decide +kernel) (pa_cons (pe_lc (own := [("_law_one", 1)]) (g := gName 1) rfl sc_law_many.nd (pi_list (pe_ix ix_tup (pv 0) pe_int (fun _ _ => rfl))) (blkOk_by (N := ["_law_tree_here", "_law_one"]) (sc := defScope s_law_many) (by decide +kernel)) (fun _ _ _ _ _ => pg_name (i := 1) sc_law_many.nd rfl (Or.inl rfl)) (fun _ _ _ _ _ => pts_nil) (fun _ _ _ _ _ => (pe_d D__law_many hc (hr.mono (by omega)) (by rfl) (fun _ => passN) (pa_cons (pv 1) pa_nil)))) pa_nil))))) pss_nil)
 (pss_one (ps_ret (pe_ifExp (pt_cmpR op_in_seq (pe_ix ix_tup (pv 0) pe_int (fun _ _ => rfl)) (pe_tup (pa_cons pe_str (pa_cons pe_str (pa_cons pe_str pa_nil)))) (by rfl)) (pe_op op_add pe_int (pe_d D__law_many hc (hr.mono (by omega)) (by rfl) (fun _ => passN) (pa_cons (pe_ix ix_tup (pv 0) pe_int (fun _ _ => rfl)) pa_nil))) pe_int)))), ?_⟩
  have sz := sizeLine_eq
  obtain ⟨a, xs, rfl, ha⟩ := ht.tup
  have hq := SqT.of (K := K) ha
  refine ⟨_, rfl, a, _, _, _, rfl, rfl, hq, atI_nat (j := 0) rfl, by show 2 ≤ sizeLine; omega, fun c hc2 => ?_⟩
  have n1 := upd_same (H := H) (a := c) (o := .tup [V.str "sequence", V.str "choice"])
  have s1 := same_new (o := .tup [V.str "sequence", V.str "choice"]) hc2
  generalize upd H c (.tup [V.str "sequence", V.str "choice"]) = H1 at n1 s1 ⊢
  have ha1 := s1 _ _ ha
  refine ⟨c, _, rfl, .inr (SqT.of n1), rfl, rfl, _, rfl, ?_⟩
  have lists : ∀ (b : Addr) (vl : List V) (l : List Tr), H a = some (.tup [.str t.kind, .ref b]) → H b = some (.lst vl) → TrsAt H vl l → t.height = heights l + 1 → nd t = nds l + 1 →
      (tRet (tOp (rI0 fun i j => V.int (i + j)) (tC (V.int 1)) (tCB (rSum K) (tCons (tLc (iList K (tOp (rIxT K) (tVar 0) (tC (V.int 1)))) (gName 1) tYes (tCallG (spMany m) [] (fun x => E0) (tCons (tVar 1) tNil)) [1]) tNil)))) { nx := fun _ H' => Q .non H', rt := Q } [some (.ref a), none] H1 := by
    intro b vl l k1 k2 k3 hh hnn
    refine ⟨_, rfl, a, _, _, _, rfl, rfl, SqT.of (s1 _ _ k1), atI_nat (j := 1) rfl, b, rfl, ⟨_, SqL.of (s1 _ _ k2)⟩, fun D hD => ?_⟩
    have lv := k3.length
    have ln := nds_len l
    refine lc_list (xs := vl) (fun i H' => H' D = some (.lst (((l.take i).map fun t => ((nd t : Nat) : Int)).map V.int)) ∧ Same H1 H') ⟨upd_same, same_new hD⟩ (fun i H' _ s => SqL.of (s.2 _ _ (s1 _ _ k2))) ?_ ?_
    · rintro i x Hh hx ⟨g1, g2⟩
      obtain ⟨u, e1, e2⟩ := k3.at hx
      have hu := heights_at e1
      have hnu := nds_at e1
      refine ⟨wipe1 _ _ _, yes_go ⟨_, rfl, x, u, rfl, e2.same (s1.trans g2), by omega, by omega, fun H' s' => ⟨_, s' _ _ g1, ?_, ?_, fun b o hb => ?_⟩⟩⟩
      · rw [List.length_map, List.length_map, List.length_take]
        omega
      · rw [upd_same, List.take_add_one, e1, List.map_append, List.map_append]
        rfl
      · rw [upd_ne (ne_of_none hb hD)]
        exact s' _ _ (g2 _ _ hb)
    · rintro H' ⟨g1, g2⟩
      rw [List.take_of_length_le (by omega)] at g1
      refine ⟨D, _, rfl, SqL.of g1, _, _, rfl, rfl, ?_⟩
      have e : (1 : Int) + (l.map fun t => ((nd t : Nat) : Int)).sum = ((nd t : Nat) : Int) := by
        rw [nds_sum, hnn]
        omega
      show Q (V.int ((1 : Int) + (l.map fun t => ((nd t : Nat) : Int)).sum)) H'
      rw [e]
      exact q _ (s1.trans g2)
  refine iteB (fun c => ?_) (fun c => ?_)
  · rcases listed_of c with ⟨l, rfl⟩ | ⟨l, rfl⟩
    · cases ht with
      | seq h1 h2 h3 => exact lists _ _ l h1 h2 h3 rfl rfl
    · cases ht with
      | cho h1 h2 h3 => exact lists _ _ l h1 h2 h3 rfl rfl
  refine ⟨_, rfl, a, _, _, _, rfl, rfl, SqT.of ha1, atI_nat (j := 0) rfl, by show 3 ≤ sizeLine; omega, fun c2 hc3 => ?_⟩
  have n2 := upd_same (H := H1) (a := c2) (o := .tup [V.str "many", V.str "some", V.str "maybe"])
  have s2 := same_new (o := .tup [V.str "many", V.str "some", V.str "maybe"]) hc3
  generalize upd H1 c2 (.tup [V.str "many", V.str "some", V.str "maybe"]) = H2 at n2 s2 ⊢
  have s12 := s1.trans s2
  refine ⟨c2, _, rfl, .inr (SqT.of n2), rfl, rfl, _, rfl, ?_⟩
  refine iteB (fun c => ?_) (fun c => ?_)
  · obtain ⟨k, u, rfl⟩ := signed_of c
    cases ht with
    | sgn h g =>
      have hh : (Tr.sgn k u).height = u.height + 1 := rfl
      have hnn : nd (Tr.sgn k u) = nd u + 1 := rfl
      refine ⟨_, rfl, a, _, _, _, rfl, rfl, SqT.of (s12 _ _ h), atI_nat (j := 1) rfl, _, u, rfl, g.same s12, by omega, by omega, fun H' s' => ⟨_, _, rfl, rfl, ?_⟩⟩
      have e : (1 : Int) + ((nd u : Nat) : Int) = ((nd (Tr.sgn k u) : Nat) : Int) := by omega
      show Q (V.int ((1 : Int) + ((nd u : Nat) : Int))) H'
      rw [e]
      exact q _ (s12.trans s')
  · have e : nd t = 1 := by
      cases t with
      | seq l => rename_i c0; exact absurd (show inV (.str sSeq) [V.str sSeq, V.str sCho] = false from c0) (by decide +kernel)
      | cho l => rename_i c0; exact absurd (show inV (.str sCho) [V.str sSeq, V.str sCho] = false from c0) (by decide +kernel)
      | sgn k u => exact absurd (show inV (.str (sSgn k)) [V.str "many", V.str "some", V.str "maybe"] = false from c) ((by decide +kernel : ∀ k : Fin 3, ¬ inV (.str (sSgn k)) [V.str "many", V.str "some", V.str "maybe"] = false) k)
      | _ => rfl
    rw [e] at q
    exact q _ s12
abbrev s_law_put : Stmt := top 49
theorem sc_law_put : FnScope ["_law_tree_here", "_law_left", "_law_value", "_law_one"] ["_law_tree_here", "_law_left", "_law_value"] (defScope s_law_put) := ⟨rfl, rfl, rfl, by decide +kernel, rfl, by decide +kernel, by decide +kernel⟩
theorem ok_put {f f1 : Addr} {fd fd1 : FuncData} {m : Nat} (F : Fun K "_law_put" "_law_put" s_law_put f fd) (T : Txt w K mg base aS aL es n)
    (D__law_put : Df P w K mg base CX0 m "_law_put" f1 fd1 ["_law_tree_here", "_law_left", "_law_value"] (spPut K m)) : FnG P w K mg base CX0 (m + 1) f fd ["_law_tree_here", "_law_left", "_law_value"] (spPut K (m + 1)) := by
  refine okG F sc_law_put (fun vs H Q E h => ?_) (fun cdv A outer s H vs Q E hc hr h => ?_)
  · obtain ⟨G, q, v, bad, t, db, l, rfl, _⟩ := h
    rfl
  obtain ⟨G, lq, v, bad, t, db, l, rfl, hl, gl, sG, ht, hb, hm, hn, q⟩ := h
  refine ⟨_, (pss_cons (ps_asg (pe_op op_sub (pe_ix ix_list (pv 1) pe_int (fun _ _ => rfl)) pe_int) (pg_sub (pv 1) pe_int set_list))
 (pss_cons (ps_if (pt_cmpR op_eq (pe_ix ix_list (pv 1) pe_int (fun _ _ => rfl)) (pe_un un_neg pe_int) (nomark _))
  (pss_one (ps_ret (pv 2))) pss_nil)
 (pss_cons (ps_if (pt_cmpR op_in_seq (pe_ix ix_tup (pv 0) pe_int (fun _ _ => rfl)) (pe_tup (pa_cons pe_str (pa_cons pe_str pa_nil))) (by rfl))
  (pss_one (ps_ret (pe_tup (pa_cons (pe_ix ix_tup (pv 0) pe_int (fun _ _ => rfl)) (pa_cons (pe_lc (own := [("_law_one", 3)]) (g := gName 3) rfl sc_law_put.nd (pi_list (pe_ix ix_tup (pv 0) pe_int (fun _ _ => rfl))) (blkOk_by (N := ["_law_tree_here", "_law_left", "_law_value", "_law_one"]) (sc := defScope s_law_put) (by decide +kernel)) (fun _ _ _ _ _ => pg_name (i := 3) sc_law_put.nd rfl (Or.inl rfl)) (fun _ _ _ _ _ => pts_nil) (fun _ _ _ _ _ => (pe_d D__law_put hc (hr.mono (by omega)) (by rfl) (fun _ => passN) (pa_cons (pv 3) (pa_cons (pv 1) (pa_cons (pv 2) pa_nil)))))) pa_nil))))) pss_nil)
 (pss_one (ps_ret (pe_ifExp (pt_cmpR op_in_seq (pe_ix ix_tup (pv 0) pe_int (fun _ _ => rfl)) (pe_tup (pa_cons pe_str (pa_cons pe_str (pa_cons pe_str pa_nil)))) (by rfl)) (pe_tup (pa_cons (pe_ix ix_tup (pv 0) pe_int (fun _ _ => rfl)) (pa_cons (pe_d D__law_put hc (hr.mono (by omega)) (by rfl) (fun _ => passN) (pa_cons (pe_ix ix_tup (pv 0) pe_int (fun _ _ => rfl)) (pa_cons (pv 1) (pa_cons (pv 2) pa_nil)))) pa_nil))) (pv 0))))))), ?_⟩
  have sz := sizeLine_eq
  obtain ⟨a, xs, rfl, ha⟩ := ht.tup
  have na : a ≠ lq := fun z => by rw [z, gl] at ha; exact nomatch ha
  refine ⟨_, rfl, lq, _, _, _, rfl, rfl, SqL.of hl, atI_nat (j := 0) rfl, _, _, rfl, rfl, ?_⟩
  refine ⟨_, rfl, lq, _, _, 0, rfl, rfl, hl, rfl, ?_⟩
  have hl1 := upd_same (H := H) (a := lq) (o := .lst [V.int (l - 1)])
  have fr1 : ∀ b o, b ≠ lq → H b = some o → upd H lq (.lst [V.int (l - 1)]) b = some o := fun b o n h => by rw [upd_ne n]; exact h
  have s1 : Same G (upd H lq (.lst [V.int (l - 1)])) := fun b o h => fr1 b o (fun z => by rw [z, gl] at h; exact nomatch h) (sG _ _ h)
  have nw1 : ∀ b, upd H lq (.lst [V.int (l - 1)]) b = none → H b = none := fun b h => by
    by_cases z : b = lq
    · rw [z, upd_same] at h; exact nomatch h
    · rw [upd_ne z] at h; exact h
  show _
  generalize hH1 : upd H lq (.lst [V.int (l - 1)]) = H1 at hl1 fr1 s1 nw1
  have hset : upd H lq (.lst ([V.int l].set 0 (V.int (l - 1)))) = H1 := hH1
  rw [hset]
  refine ⟨_, rfl, lq, _, _, _, rfl, rfl, SqL.of hl1, atI_nat (j := 0) rfl, 1, rfl, rfl, _, rfl, ?_⟩
  have e1 : decide (V.int (l - 1) = V.int (-1)) = decide (l - 1 = -1) := decide_eq_decide.mpr ⟨fun z => by injection z, fun z => by rw [z]⟩
  show if decide (V.int (l - 1) = V.int (-1)) = true then _ else _
  rw [e1]
  refine iteB (fun c => ?_) (fun c => ?_)
  · exact ⟨_, rfl, q bad db (l - 1) G H1 (Same.refl G) s1 gl hl1 fr1 hb (fun c e1 e2 => absurd e1 e2) (.here (of_decide_eq_true c)) (.inl ⟨rfl, rfl⟩)⟩
  have c := of_decide_eq_false c
  have hlq : ∀ {H' : Hp} {o : HO}, H1 lq = some o → (∀ b o, H1 b = some o → H' b = some o) → H' lq = some o := fun h s => s _ _ h
  refine ⟨_, rfl, a, _, _, _, rfl, rfl, SqT.of (s1 _ _ ha), atI_nat (j := 0) rfl, by show 2 ≤ sizeLine; omega, fun c1 hc1 => ?_⟩
  have n1 := upd_same (H := H1) (a := c1) (o := .tup [V.str "sequence", V.str "choice"])
  have t1 := same_new (o := .tup [V.str "sequence", V.str "choice"]) hc1
  have w1 : ∀ b, upd H1 c1 (.tup [V.str "sequence", V.str "choice"]) b = none → H b = none := fun b h => nw1 b (by
    cases e : H1 b with
    | none => rfl
    | some o => rw [t1 _ _ e] at h; exact nomatch h)
  generalize upd H1 c1 (.tup [V.str "sequence", V.str "choice"]) = H2 at n1 t1 w1 ⊢
  have s2 : Same G H2 := fun b o h => t1 _ _ (s1 _ _ h)
  have fr2 : ∀ b o, b ≠ lq → H b = some o → H2 b = some o := fun b o n h => t1 _ _ (fr1 b o n h)
  have hl2 := t1 _ _ hl1
  refine ⟨c1, _, rfl, .inr (SqT.of n1), rfl, rfl, _, rfl, ?_⟩
  have gnone : ∀ {b : Addr}, H b = none → G b = none := fun {b} h => by
    cases e : G b with
    | none => rfl
    | some o => rw [sG _ _ e] at h; exact nomatch h
  have lists : ∀ (b : Addr) (vl : List V) (ts : List Tr), G a = some (.tup [.str t.kind, .ref b]) → G b = some (.lst vl) → TrsAt G vl ts → t.height = heights ts + 1 → nd t = nds ts + 1 →
      (∀ ds l', PRs db ts (l - 1) ds l' → PR db t l (.tuple [.str t.kind, .list ds]) l') →
      (tRet (tTup (tCons (tOp (rIxT K) (tVar 0) (tC (V.int 0))) (tCons (tLc (iList K (tOp (rIxT K) (tVar 0) (tC (V.int 1)))) (gName 3) tYes (tCallG (spPut K m) [] (fun x => E0) (tCons (tVar 3) (tCons (tVar 1) (tCons (tVar 2) tNil)))) [3]) tNil)))) { nx := fun _ H' => Q .non H', rt := Q } [some (.ref a), some (.ref lq), some bad, none] H2 := by
    intro b vl ts k1 k2 k3 hh hnn mk
    have lv := k3.length
    have ln := nds_len ts
    refine ⟨_, rfl, a, _, _, _, rfl, rfl, SqT.of (s2 _ _ k1), atI_nat (j := 0) rfl, ?_⟩
    refine ⟨_, rfl, a, _, _, _, rfl, rfl, SqT.of (s2 _ _ k1), atI_nat (j := 1) rfl, b, rfl, ⟨_, SqL.of (s2 _ _ k2)⟩, fun D hD => ?_⟩
    have hGD := gnone (w1 D hD)
    have nDq : D ≠ lq := fun z => by rw [z, hl2] at hD; exact nomatch hD
    refine lc_list (xs := vl) (fun i H' => ∃ (G' : Hp) (vs' : List V) (ds : List PyData) (li : Int), H' D = some (.lst vs') ∧ DbL K G' vs' ds ∧ Same G G' ∧ Same G' H' ∧ G' D = none ∧ G' lq = none ∧ H' lq = some (.lst [.int li]) ∧ (∀ b o, b ≠ lq → H2 b = some o → H' b = some o) ∧ (∀ c, G c = none → G' c ≠ none → H2 c = none) ∧ PRs db (ts.take i) (l - 1) ds li)
      ⟨G, [], [], l - 1, upd_same, .nil, Same.refl G, fun c u h => by rw [upd_ne (fun z => by rw [z, hGD] at h; exact nomatch h)]; exact s2 _ _ h, hGD, gl, by rw [upd_ne nDq.symm]; exact hl2, fun c u _ h => by rw [upd_ne (ne_of_none h hD)]; exact h, fun c e1 e2 => absurd e1 e2, ?_⟩
      (fun i H' _ ⟨_, _, _, _, _, _, g3, g4, _⟩ => SqL.of (g4 _ _ (g3 _ _ k2))) ?_ ?_
    · rw [List.take_zero]
      refine .inr ⟨?_, by rw [dTs], by show _ = l - 1 - (0 : Nat); omega⟩
      show l - 1 < 0 ∨ ((0 : Nat) : Int) ≤ l - 1
      omega
    · rintro i x Hh hx ⟨G', vs', ds, li, g1, g2, g3, g4, g5, g6, g7, g8, g9, g10⟩
      obtain ⟨u, e1, e2⟩ := k3.at hx
      have hu := heights_at e1
      have hnu := nds_at e1
      have ilt : i < vl.length := (List.getElem?_eq_some_iff.mp hx).1
      refine ⟨wipe1 _ _ _, yes_go ⟨_, rfl, _, rfl, _, rfl, G', lq, x, bad, u, db, li, rfl, g7, g6, g4, e2.same g3, hb.same g3, by omega, by omega, fun v' d l' G2 H' a1 a2 a3 a4 a5 a6 a7 a8 _ => ?_⟩⟩
      have l2 := g2.length
      have lds : ds.length = vs'.length := l2
      have hG2D : G2 D = none := by
        cases e : G2 D with
        | none => rfl
        | some o =>
          exfalso
          have := a7 D g5 (by rw [e]; exact fun z => nomatch z)
          rw [g1] at this
          exact nomatch this
      have lprs : ds.length ≤ 1000 := by
        have : ∀ {ts' : List Tr} {x l'' : Int} {ds' : List PyData}, PRs db ts' x ds' l'' → ds'.length = ts'.length := fun {ts' x l'' ds'} h => by
          rcases h with ⟨_, _, h, _⟩ | ⟨_, h, _⟩
          · exact putL_len h
          · rw [h, dTs_len]
        rw [this g10, List.length_take]
        omega
      refine ⟨vs', a5 _ _ nDq g1, by omega, G2, vs' ++ [v'], ds ++ [d], l', upd_same, (g2.same a1).append (.cons a6 .nil), g3.trans a1, fun c u h => ?_, hG2D, a3, by rw [upd_ne nDq.symm]; exact a4, fun c u n h => ?_, fun c e3 e4 => ?_, ?_⟩
      · rw [upd_ne (fun z => by rw [z, hG2D] at h; exact nomatch h)]
        exact a2 _ _ h
      · rw [upd_ne (ne_of_none h hD)]
        exact a5 _ _ n (g8 _ _ n h)
      · cases e : G' c with
        | some o => exact g9 c e3 (by rw [e]; exact fun z => nomatch z)
        | none =>
          have h := a7 c e e4
          cases e5 : H2 c with
          | none => rfl
          | some o =>
            by_cases z : c = lq
            · rw [z, a3] at e4; exact absurd rfl e4
            · rw [g8 _ _ z e5] at h; exact nomatch h
      · rw [take_snoc e1]
        exact g10.snoc a8
    rintro H' ⟨G', vs', ds, li, g1, g2, g3, g4, g5, g6, g7, g8, g9, g10⟩
    rw [List.take_of_length_le (by omega)] at g10
    refine ⟨by show 2 ≤ sizeLine; omega, fun a' ha' => ?_⟩
    have nD : D ≠ a' := ne_of_none g1 ha'
    have naq : a' ≠ lq := (ne_of_none g7 ha').symm
    have fwd : ∀ c o, G' c = some o → upd (upd G' D (.lst vs')) a' (.tup [.str t.kind, .ref D]) c = some o := fun c o h => by
      rw [upd_ne (ne_of_none (g4 _ _ h) ha'), upd_ne (ne_of_none h g5)]
      exact h
    refine q _ (.tuple [.str t.kind, .list ds]) li (upd (upd G' D (.lst vs')) a' (.tup [.str t.kind, .ref D])) _ (fun c o h => fwd c o (g3 _ _ h)) (fun c o h => ?_) ?_ ?_ (fun c o n h => ?_) ?_ (fun c e1 e2 => ?_) (mk _ _ g10) (.inr ⟨_, rfl⟩)
    · by_cases z : c = a'
      · rw [z, upd_same] at h ⊢
        exact h
      · rw [upd_ne z] at h ⊢
        by_cases z2 : c = D
        · rw [z2, upd_same] at h
          rw [z2, g1]
          exact h
        · rw [upd_ne z2] at h
          exact g4 _ _ h
    · rw [upd_ne naq.symm, upd_ne nDq.symm]
      exact g6
    · rw [upd_ne naq.symm]
      exact g7
    · rw [upd_ne (ne_of_none (g8 _ _ n (fr2 _ _ n h)) ha')]
      exact g8 _ _ n (fr2 _ _ n h)
    · exact .tup upd_same (.cons (.str _) (.cons (.lst (by rw [upd_ne nD]; exact upd_same) (g2.same fwd)) .nil))
    · by_cases z : c = a'
      · rw [z]
        cases e3 : H a' with
        | none => rfl
        | some o => rw [g8 _ _ naq (fr2 _ _ naq e3)] at ha'; exact nomatch ha'
      · rw [upd_ne z] at e2
        by_cases z2 : c = D
        · rw [z2]
          exact w1 D hD
        · rw [upd_ne z2] at e2
          exact w1 c (g9 c e1 e2)
  refine iteB (fun c0 => ?_) (fun c0 => ?_)
  · rcases listed_of c0 with ⟨ts, rfl⟩ | ⟨ts, rfl⟩
    · cases ht with
      | seq h1 h2 h3 => exact lists _ _ ts h1 h2 h3 rfl rfl (fun ds l' h => .seq c h)
    · cases ht with
      | cho h1 h2 h3 => exact lists _ _ ts h1 h2 h3 rfl rfl (fun ds l' h => .cho c h)
  refine ⟨_, rfl, a, _, _, _, rfl, rfl, SqT.of (s2 _ _ ha), atI_nat (j := 0) rfl, by show 3 ≤ sizeLine; omega, fun c2 hc2 => ?_⟩
  have n2 := upd_same (H := H2) (a := c2) (o := .tup [V.str "many", V.str "some", V.str "maybe"])
  have t2 := same_new (o := .tup [V.str "many", V.str "some", V.str "maybe"]) hc2
  have w2 : ∀ b, upd H2 c2 (.tup [V.str "many", V.str "some", V.str "maybe"]) b = none → H b = none := fun b h => w1 b (by
    cases e : H2 b with
    | none => rfl
    | some o => rw [t2 _ _ e] at h; exact nomatch h)
  generalize upd H2 c2 (.tup [V.str "many", V.str "some", V.str "maybe"]) = H3 at n2 t2 w2 ⊢
  have s3 : Same G H3 := fun b o h => t2 _ _ (s2 _ _ h)
  have fr3 : ∀ b o, b ≠ lq → H b = some o → H3 b = some o := fun b o n h => t2 _ _ (fr2 b o n h)
  have hl3 := t2 _ _ hl2
  refine ⟨c2, _, rfl, .inr (SqT.of n2), rfl, rfl, _, rfl, ?_⟩
  refine iteB (fun c3 => ?_) (fun c3 => ?_)
  · obtain ⟨k, u, rfl⟩ := signed_of c3
    cases ht with
    | sgn h g =>
      have hh : (Tr.sgn k u).height = u.height + 1 := rfl
      have hnn : nd (Tr.sgn k u) = nd u + 1 := rfl
      refine ⟨_, rfl, a, _, _, _, rfl, rfl, SqT.of (s3 _ _ h), atI_nat (j := 0) rfl, ?_⟩
      refine ⟨_, rfl, a, _, _, _, rfl, rfl, SqT.of (s3 _ _ h), atI_nat (j := 1) rfl, _, rfl, _, rfl, G, lq, _, bad, u, db, l - 1, rfl, hl3, gl, s3, g, hb, by omega, by omega, fun v' d l' G2 H' a1 a2 a3 a4 a5 a6 a7 a8 _ => ⟨by show 2 ≤ sizeLine; omega, fun a' ha' => ?_⟩⟩
      have naq : a' ≠ lq := (ne_of_none a4 ha').symm
      have fwd : ∀ c o, G2 c = some o → upd G2 a' (.tup [.str (sSgn k), v']) c = some o := fun c o h => by
        rw [upd_ne (ne_of_none (a2 _ _ h) ha')]
        exact h
      refine q _ (.tuple [.str (sSgn k), d]) l' (upd G2 a' (.tup [.str (sSgn k), v'])) _ (fun c o h => fwd c o (a1 _ _ h)) (fun c o h => ?_) ?_ ?_ (fun c o n h => ?_) ?_ (fun c e1 e2 => ?_) (.sgn c a8) (.inr ⟨_, rfl⟩)
      · by_cases z : c = a'
        · rw [z, upd_same] at h ⊢
          exact h
        · rw [upd_ne z] at h ⊢
          exact a2 _ _ h
      · rw [upd_ne naq.symm]
        exact a3
      · rw [upd_ne naq.symm]
        exact a4
      · rw [upd_ne (ne_of_none (a5 _ _ n (fr3 _ _ n h)) ha')]
        exact a5 _ _ n (fr3 _ _ n h)
      · exact .tup upd_same (.cons (.str _) (.cons (a6.same fwd) .nil))
      · by_cases z : c = a'
        · rw [z]
          cases e3 : H a' with
          | none => rfl
          | some o => rw [a5 _ _ naq (fr3 _ _ naq e3)] at ha'; exact nomatch ha'
        · rw [upd_ne z] at e2
          exact w2 c (a7 c e1 e2)
  · have e : nd t = 1 := by
      cases t with
      | seq l => exact absurd (show inV (.str sSeq) [V.str sSeq, V.str sCho] = false from c0) (by decide +kernel)
      | cho l => exact absurd (show inV (.str sCho) [V.str sSeq, V.str sCho] = false from c0) (by decide +kernel)
      | sgn k u => exact absurd (show inV (.str (sSgn k)) [V.str "many", V.str "some", V.str "maybe"] = false from c3) ((by decide +kernel : ∀ k : Fin 3, ¬ inV (.str (sSgn k)) [V.str "many", V.str "some", V.str "maybe"] = false) k)
      | _ => rfl
    exact ⟨_, rfl, q _ _ _ G H3 (Same.refl G) s3 gl hl3 fr3 (db_tree ht) (fun c e1 e2 => absurd e1 e2) (.leaf e c) (.inr (let ⟨ds, h⟩ := dT_tup t; ⟨_, h⟩))⟩
end
end KT

set_option maxHeartbeats 4000000
namespace Gd
open PySem PySem.Spec PyProof.Rows L2
/-! ### dict(a list of pairs) whose keys are tuples -/
def mergeT (kvs more : List (List Key × V)) : List (List Key × V) := more.foldl (fun acc kv => putK acc kv.1 kv.2) kvs
theorem mergeT_len : ∀ (more kvs : List (List Key × V)), (mergeT kvs more).length ≤ kvs.length + more.length
  | [], kvs => Nat.le_refl _
  | p :: r, kvs => by
    have h1 := mergeT_len r (putK kvs p.1 p.2)
    have h2 := length_putK kvs p.1 p.2
    show (mergeT (putK kvs p.1 p.2) r).length ≤ _
    rw [List.length_cons]
    omega
theorem KT.merge {H : Hp} : ∀ {more : List (List Key × V)} {rs : List (List Key × Addr × Value)} {kvs : List (List Key × V)} {vs : List (List Key × Addr × Value)}, KT H more rs → KT H kvs vs → KT H (mergeT kvs more) (storedAllH vs rs)
  | _, _, _, _, .nil, r => r
  | _, _, kvs, vs, .cons (a := p) (b := q) h t, r => by
    obtain ⟨h1, h2, h3⟩ := h
    have e : KT H (putK kvs p.1 p.2) (storedH vs q.1 q.2.1 q.2.2) := by
      rw [← h1]
      exact r.put p.1 h2 h3
    show KT H (mergeT (putK kvs p.1 p.2) _) (storedAllH (storedH vs q.1 q.2.1 q.2.2) _)
    exact KT.merge t e
section
variable {X : Cx} {pins : List (Addr × Obj)} {σ : L2.St} {H : Hp} {s : Shared}
/-- a pair (key, value) at p, its key a tuple -/
abbrev PairT (K : PySem.W.Frag) (H : Hp) (p : Addr) (kv : List Key × V) : Prop := ∃ b, SqT K H p [.ref b, kv.2] ∧ H b = some (.tup (kv.1.map kV))
theorem pairsT_of (I : Inv X pins σ H s) : ∀ {ps : List Addr} {kvs : List (List Key × V)}, Paired (PairT X.K H) ps kvs →
    ∃ rs : List (List Key × Addr × Value), KT H kvs rs ∧ rs.length = ps.length ∧ ∀ (j : Nat) (q : List Key × Addr × Value), rs[j]? = some q → ∃ b : Addr, ps[j]? = some b ∧ IsTup s.heap b #[.ref q.2.1, q.2.2]
  | _, _, .nil => ⟨[], .nil, rfl, fun j q e => nomatch (show (none : Option (List Key × Addr × Value)) = some q from by simpa using e)⟩
  | _, _, .cons (a := p) (b := kv) ⟨b, h, hb⟩ t => by
    obtain ⟨rs, r, hl, hp⟩ := pairsT_of I t
    obtain ⟨its, rv, ht, _⟩ := I.tuple h
    obtain ⟨u, y, ei, ru, ry⟩ := vals2 rv
    subst ei
    cases (show u = Value.ref b from ru)
    refine ⟨(kv.1, b, y) :: rs, .cons ⟨rfl, hb, ry⟩ r, by rw [List.length_cons, List.length_cons, hl], fun j q e => ?_⟩
    cases j with
    | zero =>
      cases Option.some.inj e
      exact ⟨p, rfl, ht⟩
    | succ j => exact hp j q e
theorem call_dictT (hc : X.calm = true) (hu : X.A.units + 2 < cLine) : CallR X (.type "dict") (fun xs H Q => ∃ (a : Addr) (ps : List Addr) (kvs : List (List Key × V)), xs = [.ref a] ∧ SqL X.K H a (ps.map V.ref) ∧ Paired (PairT X.K H) ps kvs ∧
    ∀ p, H p = none → Q (.ref p) (upd H p (.dT (mergeT [] kvs)))) := by
  intro pins s σ H xs us Q I r q
  obtain ⟨a, ps, kvs, rfl, hq, hp, q⟩ := q
  obtain ⟨u, rfl, rx⟩ := vals1 r
  cases rx
  obtain ⟨its, rv, pl, hz⟩ := I.list hq
  have ei := refs_at rv
  subst ei
  rw [List.length_map] at hz
  obtain ⟨rs, rel, hl, hpr⟩ := pairsT_of I hp
  obtain ⟨o, n, ho, hcl, hd, hdat⟩ := pl
  have items : PairItems s.heap (ps.map Value.ref).toArray (fun j => ps.getD j 0) (rs.map fun q => (Value.ref q.2.1, q.2.2)) := by
    refine ⟨by simp [hl], fun j k v e => ?_⟩
    rw [List.getElem?_map] at e
    cases e1 : rs[j]? with
    | none => rw [e1] at e; exact nomatch e
    | some q =>
      rw [e1] at e
      cases Option.some.inj e
      obtain ⟨b, e2, e3⟩ := hpr j q e1
      have g : ps.getD j 0 = b := by rw [List.getD_eq_getElem?_getD, e2]; rfl
      refine ⟨by simp [e2, g], .inl ?_⟩
      show s.heap.IsTuple (ps.getD j 0) _
      rw [g]
      obtain ⟨ob, h1, h2, n', h3⟩ := e3
      exact ⟨ob, h1, h2, n', h3⟩
  refine call_dict_pairsH (knd := tupleKind (mixKind X.prog X.w)) (ps := rs) (PairArg.list a _ _ _) (I.ok.hd hc) hu ⟨⟨o, n, ho, hcl, hd, hdat⟩, items⟩ ⟨by rw [List.length_map], fun i key v e => ?_⟩ (fun h' k x hx => ?_) (by rw [List.length_map, hl]; exact hz) fun h' tk hd' k => ?_
  · have e : (rs.map fun q => (Value.ref q.2.1, q.2.2))[i]? = some (key, v) := e
    rw [List.getElem?_map] at e
    cases e1 : rs[i]? with
    | none => rw [e1] at e; exact nomatch e
    | some q =>
      rw [e1] at e
      cases Option.some.inj e
      exact ⟨q.1, q.2.1, rfl, rfl⟩
  · have all : ∀ {l : List (List Key × V)} {m : List (List Key × Addr × Value)}, KT H l m → ∀ x ∈ m, H x.2.1 = some (.tup (x.1.map kV)) := by
      intro l m q
      induction q with
      | nil => intro x hx; exact nomatch hx
      | cons h t ih =>
        intro x hx
        rcases List.mem_cons.mp hx with rfl | hx
        · rw [← h.1]; exact h.2.1
        · exact ih x hx
    obtain ⟨ob, its, n', h1, h2⟩ := key_of I.hok (all rel x hx)
    exact ⟨ob, its, n', k _ _ (Nat.ne_of_lt (Heap.lt_size h1)) (fun z => nomatch z) h1, h2⟩
  · have hm : (s.heap.objs.size == sysModules) = false := beq_eq_false_iff_ne.mpr (Nat.ne_of_gt I.big)
    have hlen : (mergeT [] kvs).length ≤ sizeLine := by
      refine Nat.le_trans (mergeT_len kvs []) ?_
      rw [List.length_nil, Nat.zero_add, Paired.length rel, hl]
      exact hz
    have hn : H s.heap.objs.size = none := I.hok.fresh (Nat.le_refl _)
    obtain ⟨ob, es, ep, g1, g2, g3, g4, _, g5⟩ := hd'
    refine ⟨.ref s.heap.objs.size, upd H s.heap.objs.size (.dT (mergeT [] kvs)), I.laid (t' := tk) (fun b o e => k b o (fun z => nomatch z) e) (Nat.le_refl _) ?_, rfl, q _ hn⟩
    exact ⟨hlen, hm, _, (KT.merge rel .nil).keeps fun b ys e => by rw [upd_ne (ne_of_none e hn)]; exact e, ob, es, ep, g1, g2, g3, g4, g5⟩
end
theorem valV_mem {α : Type} [DecidableEq α] {kvs : List (α × V)} {k : α} {v : V} (h : valV kvs k = some v) : (k, v) ∈ kvs := by
  unfold valV at h
  cases e : kvs.find? fun kv => decide (kv.1 = k) with
  | none => rw [e] at h; exact nomatch h
  | some q =>
    rw [e] at h
    have h : q.2 = v := Option.some.inj h
    have m := List.mem_of_find?_eq_some e
    have e0 := List.find?_some e
    have e1 : q.1 = k := of_decide_eq_true e0
    rw [← h, ← e1]
    exact m
theorem valV_has {α : Type} [DecidableEq α] {kvs : List (α × V)} {k : α} {v : V} (h : (k, v) ∈ kvs) : ∃ v', valV kvs k = some v' ∧ (k, v') ∈ kvs := by
  cases e : valV kvs k with
  | some v' => exact ⟨v', rfl, valV_mem e⟩
  | none =>
    unfold valV at e
    have e := Option.map_eq_none_iff.mp e
    have z := List.find?_eq_none.mp e (k, v) h
    exact absurd (decide_eq_true rfl) z
/-- a dict with tuples as keys, read while it is locked -/
theorem DGet.tz {H : Hp} {a b : Addr} {o : Obj} {kvs : List (List Key × V)} {k : List Key} (e : H a = some (.frz o (.dT kvs))) (eb : H b = some (.tup (k.map kV))) : DGet H a (.ref b) (valV kvs k) := .inr ⟨kvs, k, b, .inr ⟨o, e⟩, rfl, eb, rfl⟩
theorem hu2_of {k : Nat} {A : Around} (r : Room k A) : A.units + 2 < cLine := by
  have := room100 r
  omega
end Gd

namespace Gd
open PySem PySem.Spec PyProof.Rows L2
/-! ### {k: v, ..} with keys that are tuples of ints and texts -/
theorem carriesT {P : Program} {w : World} {h : Heap} {H : Hp} (ok : HOk P w H h) : ∀ {kvs : List (List Key × Addr × V)} {ws : List (Value × Value)}, VV (kvs.map fun kv => (V.ref kv.2.1, kv.2.2)) ws → (∀ kv ∈ kvs, H kv.2.1 = some (.tup (kv.1.map kV))) →
    ∃ rs, CarriesH (tupleKind (mixKind P w)) h ws rs ∧ KT H (kvs.map fun kv => (kv.1, kv.2.2)) rs
  | [], _, r, _ => by rw [List.map_nil] at r; cases r; exact ⟨[], True.intro, .nil⟩
  | p :: kvs, _, r, hk => by
    rw [List.map_cons] at r
    cases r with
    | @cons a b as bs h1 t =>
      obtain ⟨rs, c, q⟩ := carriesT ok t fun kv hkv => hk kv (List.mem_cons_of_mem _ hkv)
      obtain ⟨b1, b2⟩ := b
      have e := hk p List.mem_cons_self
      refine ⟨(p.1, p.2.1, b2) :: rs, ⟨h1.1, rfl, key_of ok e, c⟩, .cons ⟨rfl, e, h1.2⟩ q⟩
def tDispT (trs : List (TE × TE)) : TE := fun σ H Q => ∀ p, H p = none → tPairs trs σ (upd H p (.dT [])) fun ps H2 => H2 p = some (.dT []) ∧ ∃ kvs : List (List Key × Addr × V), ps = kvs.map (fun kv => (V.ref kv.2.1, kv.2.2)) ∧ (∀ kv ∈ kvs, H2 kv.2.1 = some (.tup (kv.1.map kV))) ∧ kvs.length ≤ 15 ∧
  Q (.ref p) (upd H2 p (.dT (mergeT [] (kvs.map fun kv => (kv.1, kv.2.2)))))
theorem pe_dispT {X : Cx} {pos : Pos} {keys : List (Option Expr)} {values : List Expr} {trs : List (TE × TE)} (hu : X.A.units + 1 < cLine) (h : PPs X pos keys values trs) (hall : keys.all (·.isSome) = true) (hl : keys.length = values.length) (h0 : keys ≠ [])
    (h15 : keys.length ≤ 15) : PE X (.Dict keys values pos) (tDispT trs) := by
  refine ⟨fun pins s σ H Q I q => ?_⟩
  have hn := I.hok.fresh (Nat.le_refl s.heap.objs.size)
  have I1 := I.laid (a := s.heap.objs.size) (o := .dT []) (h' := s.heap.push { cls := .type "dict", data := .dict #[] }) (t' := s.toks) (fun _ _ q => Heap.get?_push_of_some _ q) (Nat.le_refl _) (dt_empty s.heap I.big)
  have hlen := pairTrees_length keys values X.env pos hall hl
  have hne : pairTrees keys values X.env pos ≠ [] := fun z => by
    rw [z] at hlen
    exact h0 (List.length_eq_zero_iff.mp hlen.symm)
  rw [arm_eval_Dict, zip_pairTrees keys values X.env pos hall hl, dictDisplay_pairs (pairTrees keys values X.env pos) hne (by omega)]
  refine wpAny_bind (wpAny_standAt (wpAny_bind (wpAny_subDictH (knd := tupleKind (mixKind X.prog X.w)) (show X.A.units < cLine by omega) (by omega) (thn (h.run pins _ σ _ _ I1 (q _ hn)) fun ws s2 ⟨ps, H2, I2, rel, e, kvs, ep, hk, lk, q2⟩ => ?_))))
  subst ep
  obtain ⟨rs, c, rk⟩ := carriesT I2.hok rel hk
  obtain ⟨z, hd, vs0, r0, dd⟩ := dt_of I2.hok e
  cases r0
  refine ⟨rs, c, dd, fun h' tk dd' hs => wpAny_pure ?_⟩
  have hz : (mergeT [] (kvs.map fun kv => (kv.1, kv.2.2))).length ≤ sizeLine := by
    have h1 := mergeT_len (kvs.map fun kv => (kv.1, kv.2.2)) []
    rw [List.length_nil, List.length_map] at h1
    rw [sizeLine_eq]; omega
  have he : ∃ q, h'.get? s.heap.objs.size = some q := let ⟨q, _, _, hq, _⟩ := dd'; ⟨q, hq⟩
  obtain ⟨ob, es, ep, g1, g2, g3, g4, _, g5⟩ := dd'
  have notd : ∀ b ys, H2 b = some (.tup ys) → upd H2 s.heap.objs.size (.dT (mergeT [] (kvs.map fun kv => (kv.1, kv.2.2)))) b = some (.tup ys) := fun b ys eb => by
    rw [upd_ne (fun z => by rw [z, e] at eb; exact nomatch eb)]
    exact eb
  have new : ObjOk X.prog X.w (upd H2 s.heap.objs.size (.dT (mergeT [] (kvs.map fun kv => (kv.1, kv.2.2))))) h' s.heap.objs.size (.dT (mergeT [] (kvs.map fun kv => (kv.1, kv.2.2)))) :=
    ⟨hz, hd, _, (KT.merge rk .nil).keeps notd, ob, es, ep, g1, g2, g3, g4, g5⟩
  exact ⟨.ref s.heap.objs.size, _, I2.write (e := s.heap.objs.size) (t' := tk) (by rw [e]; exact True.intro) (.inl rfl) (fun b u hb hu => (hs.2 b hb).trans hu) he new, rfl, q2⟩
end Gd

set_option maxHeartbeats 1000000
namespace KT
open PySem L2 Gd KM
/-! ### written values -/
mutual
inductive Lit where
  | non | bl (b : Bool) | int (i : Int) | str (x : Str) | one | lst (l : Lits) | tup (l : Lits) | dnew | d01 | dT2
inductive Lits where
  | nil | cons (x : Lit) (l : Lits)
end
def oneD : PyData := .tuple [.str sLetter, .str "b"]
mutual
def Lit.te : Lit → TE
  | .non => tC V.non
  | .bl b => tC (V.bl b)
  | .int i => tC (V.int i)
  | .str x => tC (V.str x)
  | .one => tVar 1
  | .lst l => tLst (Lits.ta l)
  | .tup l => tTup (Lits.ta l)
  | .dnew => tDNewK
  | .d01 => tDisp [(tC (V.int 0), tVar 1), (tC (V.int 1), tVar 1)]
  | .dT2 => tDispT [(tTup (tCons (tC (V.str "letter")) (tCons (tC (V.str "a")) tNil)), tC (V.int 0)), (tTup (tCons (tC (V.str "letter")) (tCons (tC (V.str "b")) tNil)), tC (V.int 0))]
def Lits.ta : Lits → TA
  | .nil => tNil
  | .cons x l => tCons (Lit.te x) (Lits.ta l)
end
mutual
def Lit.data : Lit → PyData
  | .non => .none
  | .bl b => .bool b
  | .int i => .int i
  | .str x => .str x
  | .one => oneD
  | .lst l => .list (Lits.datas l)
  | .tup l => .tuple (Lits.datas l)
  | .dnew => .dict []
  | .d01 => .dict [(.int 0, oneD), (.int 1, oneD)]
  | .dT2 => .dict [(.tuple [.str "letter", .str "a"], .int 0), (.tuple [.str "letter", .str "b"], .int 0)]
def Lits.datas : Lits → List PyData
  | .nil => []
  | .cons x l => Lit.data x :: Lits.datas l
end
def Lits.len : Lits → Nat
  | .nil => 0
  | .cons _ l => l.len + 1
def Lit.topB : Lit → Bool
  | .d01 => false
  | .dT2 => false
  | _ => true
mutual
def Lit.small : Lit → Bool
  | .lst l => decide (l.len ≤ 20) && Lits.small l
  | .tup l => decide (l.len ≤ 20) && Lits.small l
  | _ => true
def Lits.small : Lits → Bool
  | .nil => true
  | .cons x l => Lit.small x && Lits.small l
end
/-- a part of a heap, and both grown -/
structure Ext (G H G' H' : Hp) : Prop where
  s : Same H H'
  g : Same G G'
  i : Same G' H'
  n : ∀ c, G c = none → H c ≠ none → G' c = none
theorem Ext.refl {G H : Hp} (h : Same G H) : Ext G H G H := ⟨Same.refl H, Same.refl G, h, fun _ h _ => h⟩
theorem Ext.trans {G H G1 H1 G2 H2 : Hp} (a : Ext G H G1 H1) (b : Ext G1 H1 G2 H2) : Ext G H G2 H2 :=
  ⟨a.s.trans b.s, a.g.trans b.g, b.i, fun c h1 h2 => b.n c (a.n c h1 h2) (by
    obtain ⟨o, e⟩ := Option.ne_none_iff_exists'.mp h2
    rw [a.s _ _ e]
    exact fun z => nomatch z)⟩
theorem gnone {G H : Hp} (s : Same G H) {c : Addr} (h : H c = none) : G c = none := by
  cases e : G c with
  | none => rfl
  | some o => rw [s _ _ e] at h; exact nomatch h
theorem Ext.new {G H : Hp} {p : Addr} {o : HO} (s : Same G H) (h : H p = none) : Ext G H (upd G p o) (upd H p o) :=
  ⟨same_new h, same_new (gnone s h), fun c u e => by
    by_cases z : c = p
    · rw [z, upd_same] at e ⊢
      exact e
    · rw [upd_ne z] at e ⊢
      exact s _ _ e, fun c e1 e2 => by rw [upd_ne (fun z => e2 (by rw [z]; exact h))]; exact e1⟩
/-- a new thing that is no part -/
theorem Ext.out {G H G' H' : Hp} {p : Addr} {o : HO} (a : Ext G H G' H') (h : H' p = none) : Ext G H G' (upd H' p o) :=
  ⟨a.s.trans (same_new h), a.g, a.i.trans (same_new h), a.n⟩
theorem same_wof {H : Hp} {p : Addr} (h : H p = none) {o : HO} : Same H (wof p (upd H p o)) := fun b u e => by
  have n := ne_of_none e h
  exact wof_at (by rw [upd_ne n]; exact e) n
theorem mT2 : mergeT [] (List.map (fun kv : List Key × Addr × V => (kv.1, kv.2.2)) [([.inr "letter", .inr "a"], k1, .int 0), ([.inr "letter", .inr "b"], k2, .int 0)]) = [([.inr "letter", .inr "a"], V.int 0), ([.inr "letter", .inr "b"], V.int 0)] := by
  have ne : ¬ (([.inr "letter", .inr "a"] : List Key) = [.inr "letter", .inr "b"]) := by decide +kernel
  show putK (putK [] ([.inr "letter", .inr "a"] : List Key) (V.int 0)) [.inr "letter", .inr "b"] (V.int 0) = _
  simp [putK, ne]
section
variable {K : PySem.W.Frag} {a0 : Addr}
mutual
theorem lit_ok : ∀ (L : Lit) (σ : L2.St) (G H : Hp) (Q : VK), L.small = true → σ[1]? = some (some (.ref a0)) → G a0 = some (.tup [.str sLetter, .str "b"]) → Same G H →
    (∀ v G' H', Ext G H G' H' → Db K G' v L.data → (L.topB = true → Top K G' v L.data) → Q v H') → L.te σ H Q
  | .non, σ, G, H, Q, _, h1, ha, s, q => q _ G H (.refl s) .non fun _ => .inr (.inl fun a z => nomatch z)
  | .bl b, σ, G, H, Q, _, h1, ha, s, q => q _ G H (.refl s) (.bl b) fun _ => .inr (.inl fun a z => nomatch z)
  | .int i, σ, G, H, Q, _, h1, ha, s, q => q _ G H (.refl s) (.int i) fun _ => .inr (.inl fun a z => nomatch z)
  | .str x, σ, G, H, Q, _, h1, ha, s, q => q _ G H (.refl s) (.str x) fun _ => .inr (.inl fun a z => nomatch z)
  | .one, σ, G, H, Q, _, h1, ha, s, q => ⟨_, h1, q _ G H (.refl s) (.tup ha (.cons (.str _) (.cons (.str _) .nil))) fun _ => .inl ⟨_, rfl⟩⟩
  | .dnew, σ, G, H, Q, _, h1, ha, s, q => fun p hp => q _ _ _ (.new s hp) (.dct (kvs := []) (ds := []) upd_same .nil) fun _ => .inr (.inr (.inr ⟨p, rfl, upd_same, rfl⟩))
  | .lst l, σ, G, H, Q, sm, h1, ha, s, q => by
    have sm : (decide (l.len ≤ 20) && Lits.small l) = true := sm
    rw [Bool.and_eq_true] at sm
    refine lits_ok l σ G H _ sm.2 h1 ha s fun vs G' H' e hd => ?_
    have hl := of_decide_eq_true sm.1
    have ll := hd.length
    refine ⟨by rw [← ll, datas_len, sizeLine_eq]; omega, fun p hp => q _ _ _ (e.trans (.new e.i hp)) (.lst upd_same (hd.same (same_new (gnone e.i hp)))) fun _ => .inr (.inr (.inl ⟨p, vs, _, rfl, upd_same, rfl, hd.same (same_wof (gnone e.i hp))⟩))⟩
  | .tup l, σ, G, H, Q, sm, h1, ha, s, q => by
    have sm : (decide (l.len ≤ 20) && Lits.small l) = true := sm
    rw [Bool.and_eq_true] at sm
    refine lits_ok l σ G H _ sm.2 h1 ha s fun vs G' H' e hd => ?_
    have hl := of_decide_eq_true sm.1
    have ll := hd.length
    refine ⟨by rw [← ll, datas_len, sizeLine_eq]; omega, fun p hp => q _ _ _ (e.trans (.new e.i hp)) (.tup upd_same (hd.same (same_new (gnone e.i hp)))) fun _ => .inl ⟨_, rfl⟩⟩
  | .d01, σ, G, H, Q, _, h1, ha, s, q => fun p hp => by
    refine ⟨_, h1, _, h1, ?_⟩
    refine ⟨upd_same, [(.inl 0, .ref a0), (.inl 1, .ref a0)], rfl, by show 2 ≤ 15; decide, ?_⟩
    rw [upd_upd]
    have ha1 : upd G p (.dK (mergeK [] [((.inl 0 : Key), V.ref a0), (.inl 1, .ref a0)])) a0 = some (.tup [.str sLetter, .str "b"]) := by
      rw [upd_ne (ne_of_none ha (gnone s hp))]
      exact ha
    have one : Db K (upd G p (.dK (mergeK [] [((.inl 0 : Key), V.ref a0), (.inl 1, .ref a0)]))) (.ref a0) oneD := .tup ha1 (.cons (.str _) (.cons (.str _) .nil))
    exact q _ _ _ (.new s hp) (.dct (kvs := [(.inl 0, .ref a0), (.inl 1, .ref a0)]) (ds := [oneD, oneD]) upd_same (.cons one (.cons one .nil))) (fun z => nomatch z)
  | .dT2, σ, G, H, Q, _, h1, ha, s, q => fun p hp => by
    refine ⟨by rw [sizeLine_eq]; decide, fun k1 hk1 => ⟨by rw [sizeLine_eq]; decide, fun k2 hk2 => ?_⟩⟩
    have n1 : k1 ≠ p := fun z => by rw [z, upd_same] at hk1; exact nomatch hk1
    have n2 : k2 ≠ k1 := fun z => by rw [z, upd_same] at hk2; exact nomatch hk2
    have n3 : k2 ≠ p := fun z => by rw [z, upd_ne n1.symm, upd_same] at hk2; exact nomatch hk2
    refine ⟨by rw [upd_ne n3.symm, upd_ne n1.symm]; exact upd_same, [([.inr "letter", .inr "a"], k1, .int 0), ([.inr "letter", .inr "b"], k2, .int 0)], rfl, fun kv hkv => ?_, by show 2 ≤ 15; decide, ?_⟩
    · simp only [List.mem_cons, List.not_mem_nil, or_false] at hkv
      rcases hkv with rfl | rfl
      · rw [upd_ne n2.symm]
        exact upd_same
      · exact upd_same
    · rw [upd_ne n1] at hk1
      rw [upd_ne n2, upd_ne n3] at hk2
      generalize hM : mergeT [] (List.map (fun kv : List Key × Addr × V => (kv.1, kv.2.2)) [([.inr "letter", .inr "a"], k1, .int 0), ([.inr "letter", .inr "b"], k2, .int 0)]) = M
      have eM : M = [([.inr "letter", .inr "a"], V.int 0), ([.inr "letter", .inr "b"], V.int 0)] := by
        rw [← hM]
        exact mT2
      have eH : upd (upd (upd (upd H p (.dT [])) k1 (.tup [V.str "letter", V.str "a"])) k2 (.tup [V.str "letter", V.str "b"])) p (.dT M) = upd (upd (upd H p (.dT M)) k1 (.tup [V.str "letter", V.str "a"])) k2 (.tup [V.str "letter", V.str "b"]) := by
        funext b
        by_cases z : b = p
        · subst z
          rw [upd_same, upd_ne n3.symm, upd_ne n1.symm, upd_same]
        · rw [upd_ne z]
          by_cases z2 : b = k2
          · subst z2
            rw [upd_same, upd_same]
          · rw [upd_ne z2, upd_ne z2]
            by_cases z1 : b = k1
            · subst z1
              rw [upd_same, upd_same]
            · rw [upd_ne z1, upd_ne z1, upd_ne z, upd_ne z]
      show Q (.ref p) (upd (upd (upd (upd H p (.dT [])) k1 (.tup [V.str "letter", V.str "a"])) k2 (.tup [V.str "letter", V.str "b"])) p (.dT M))
      rw [eH]
      have x1 : Ext G H (upd G p (.dT M)) (upd H p (.dT M)) := .new s hp
      have x2 := x1.trans (.new (o := .tup [V.str "letter", V.str "a"]) x1.i (by rw [upd_ne n1]; exact hk1))
      have x3 := x2.trans (.new (o := .tup [V.str "letter", V.str "b"]) x2.i (by rw [upd_ne n2, upd_ne n3]; exact hk2))
      refine q _ _ _ x3 ?_ (fun z => nomatch z)
      have hp3 : upd (upd (upd G p (.dT M)) k1 (.tup [V.str "letter", V.str "a"])) k2 (.tup [V.str "letter", V.str "b"]) p = some (.dT [([.inr "letter", .inr "a"], V.int 0), ([.inr "letter", .inr "b"], V.int 0)]) := by
        rw [upd_ne n3.symm, upd_ne n1.symm, upd_same, eM]
      exact .dcT (kvs := [([.inr "letter", .inr "a"], V.int 0), ([.inr "letter", .inr "b"], V.int 0)]) (ds := [.int 0, .int 0]) hp3 (.cons (.int 0) (.cons (.int 0) .nil))
theorem lits_ok : ∀ (l : Lits) (σ : L2.St) (G H : Hp) (Q : List V → Hp → Prop), l.small = true → σ[1]? = some (some (.ref a0)) → G a0 = some (.tup [.str sLetter, .str "b"]) → Same G H →
    (∀ vs G' H', Ext G H G' H' → DbL K G' vs l.datas → Q vs H') → l.ta σ H Q
  | .nil, σ, G, H, Q, _, h1, ha, s, q => q [] G H (.refl s) .nil
  | .cons x l, σ, G, H, Q, sm, h1, ha, s, q => by
    have sm : (Lit.small x && Lits.small l) = true := sm
    rw [Bool.and_eq_true] at sm
    exact lit_ok x σ G H _ sm.1 h1 ha s fun v G1 H1 e1 d1 _ => lits_ok l σ G1 H1 _ sm.2 h1 (e1.g _ _ ha) e1.i fun vs G2 H2 e2 d2 => q _ _ _ (e1.trans e2) (.cons (d1.same e2.g) d2)
theorem datas_len : ∀ l : Lits, l.datas.length = l.len
  | .nil => rfl
  | .cons x l => by
    show (Lits.datas l).length + 1 = _
    rw [datas_len l]
    rfl
end
end
end KT

namespace KT
open PySem L2 Gd KM
/-! ### values that are no trees -/
def xA0 : Lits := (.cons .non (.cons (.int 7) (.cons (.bl true) (.cons .dnew (.cons (.lst .nil) (.cons (.tup .nil) (.cons (.str "a") (.cons (.lst (.cons (.str "letter") (.cons (.str "a") .nil))) (.cons (.tup (.cons (.str "letter") .nil)) (.cons (.tup (.cons (.str "letter") (.cons (.str "ab") .nil))) (.cons (.tup (.cons (.str "letter") (.cons (.str "") .nil))) .nil)))))))))))
def xA1 : Lits := (.cons (.tup (.cons (.str "letter") (.cons (.str "A") .nil))) (.cons (.tup (.cons (.str "letter") (.cons (.int 7) .nil))) (.cons (.tup (.cons (.str "letter") (.cons (.lst (.cons (.str "a") .nil)) .nil))) (.cons (.tup (.cons (.str "name") (.cons (.str "") .nil))) (.cons (.tup (.cons (.str "name") (.cons (.str "abcdefghi") .nil))) .nil)))))
def xA2 : Lits := (.cons (.tup (.cons (.str "name") (.cons (.str "Ab") .nil))) (.cons (.tup (.cons (.str "none") (.cons (.int 1) .nil))) (.cons (.tup (.cons (.str "empty") (.cons .non .nil))) (.cons (.tup (.cons (.str "sequence") (.cons (.lst .nil) .nil))) (.cons (.tup (.cons (.str "sequence") (.cons (.lst (.cons .one .nil)) .nil))) .nil)))))
def xA3 : Lits := (.cons (.tup (.cons (.str "choice") (.cons (.lst (.cons .one .nil)) .nil))) (.cons (.tup (.cons (.str "choice") (.cons (.tup .nil) .nil))) .nil))
def xA4 : Lits := (.cons (.tup (.cons (.str "sequence") (.cons .d01 .nil))) (.cons (.tup (.cons (.str "sequence") (.cons (.str "ab") .nil))) (.cons (.tup (.cons (.str "choice") (.cons .one .nil))) (.cons (.tup (.cons (.str "many") .nil)) (.cons (.tup (.cons (.str "many") (.cons .non .nil))) .nil)))))
def xA5 : Lits := (.cons (.tup (.cons (.str "many") (.cons .one (.cons .one .nil)))) (.cons (.tup (.cons (.str "some") (.cons (.lst (.cons .one (.cons .one .nil))) .nil))) (.cons (.tup (.cons (.str "more") (.cons .one .nil))) (.cons (.tup (.cons .non .nil)) (.cons (.tup (.cons (.str "maybe") (.cons (.str "a") .nil))) (.cons (.tup (.cons (.str "None") .nil)) .nil))))))
def xA6 : Lit := (.tup (.cons (.int 7) (.cons .one .nil)))
def xA7 : Lits := (.cons (.tup (.cons (.lst (.cons (.str "many") .nil)) (.cons .one .nil))) (.cons (.tup (.cons .dnew (.cons .one .nil))) (.cons (.tup (.cons (.str "sequence") (.cons (.int 7) .nil))) (.cons (.tup (.cons (.str "choice") (.cons .non .nil))) (.cons (.tup (.cons (.str "choice") (.cons (.bl true) .nil))) (.cons (.tup (.cons (.str "name") (.cons (.int 7) .nil))) .nil))))))
def xA8 : Lits := (.cons (.tup (.cons (.str "name") (.cons .non .nil))) (.cons (.tup (.cons (.str "name") (.cons (.lst (.cons (.str "x") .nil)) .nil))) (.cons (.tup (.cons (.str "letter") (.cons (.str "b") (.cons (.str "b") .nil)))) (.cons (.tup (.cons (.str "name") (.cons (.str "x") (.cons (.str "x") .nil)))) .nil))))
def xA9 : Lits := (.cons (.tup (.cons (.str "choice") (.cons (.lst (.cons .one (.cons .one .nil))) (.cons .one .nil)))) (.cons (.tup (.cons (.str "maybe") (.cons .one (.cons .one .nil)))) .nil))
def xA10 : Lit := (.tup (.cons (.str "sequence") (.cons .dT2 .nil)))
def xA11 : Lits := (.cons (.tup (.cons (.str "name") (.cons (.str "a1") .nil))) (.cons (.tup (.cons (.str "name") (.cons (.str "x>y") .nil))) (.cons (.tup (.cons (.str "name") (.cons (.str "a b") .nil))) (.cons (.tup (.cons (.str "letter") (.cons (.str "0") .nil))) (.cons (.tup (.cons (.str "letter") (.cons (.str "*") .nil))) .nil)))))
def xA12 : Lits := (.cons (.tup (.cons (.str "sequence") (.cons (.lst (.cons .one (.cons .one .nil))) (.cons .one .nil)))) (.cons (.tup (.cons (.str "sequence") (.cons (.lst (.cons .one (.cons (.str "b") .nil))) .nil))) (.cons (.tup (.cons (.tup (.cons (.str "none") .nil)) .nil)) (.cons (.tup (.cons (.str "Letter") (.cons (.str "a") .nil))) (.cons (.lst (.cons .one (.cons .one .nil))) .nil)))))

def notTup : PyData → Bool
  | .tuple _ => false
  | _ => true
/-- the tree of a letter -/
def letB : PyData → Bool
  | .tuple [.str x, .str y] => decide (x = sLetter) && (decide (y = "b") || decide (y = "a"))
  | _ => false
def noOne (x : Str) (d : PyData) : Bool :=
  (decide (x = sLetter) && !isLetD d && notLong d) || (decide (x = sName) && !isNamD d && notLong d) || decide (x ∈ odd3) || (isSgnS x && notTup d) || ((decide (x = sSeq) || decide (x = sCho)) && (!isSeqD d || decide ((itemsD d).length < 2) || (decide ((itemsD d).length ≤ 100000) && (itemsD d).all (fun e => notTup e || letB e) && (itemsD d).any notTup)))
where notLong : PyData → Bool
  | .str x => decide (x.length ≤ 100) && x.cps.toList.all fun c => decide (c < 128)
  | _ => true
def noB : PyData → Bool
  | .tuple [] => true
  | .tuple (.str x :: ds) => decide (x ∈ kds) && (if x = sNone ∨ x = sEmpty then decide (ds.length ≠ 0) else match ds with
    | [d] => noOne x d
    | _ => true)
  | .tuple _ => true
  | _ => true
theorem not_tup {d : PyData} (h : notTup d = true) : ∀ ds, d ≠ .tuple ds := fun ds e => by rw [e] at h; exact nomatch h
theorem short_of {d : PyData} (h : noOne.notLong d = true) : ShortD d := fun x e => by
  subst e
  have h : (decide (x.length ≤ 100) && x.cps.toList.all fun c => decide (c < 128)) = true := h
  rw [Bool.and_eq_true, decide_eq_true_eq, List.all_eq_true] at h
  exact ⟨by omega, fun c hc => of_decide_eq_true (h.2 c hc)⟩
theorem let_tb {d : PyData} (h : letB d = true) (p r : Int) (hr : 0 ≤ r) : ∃ b, TB 3 d p r b := by
  unfold letB at h
  split at h
  · rename_i x y
    rw [Bool.and_eq_true, Bool.or_eq_true, decide_eq_true_eq, decide_eq_true_eq, decide_eq_true_eq] at h
    obtain ⟨rfl, h | h⟩ := h
    · subst h
      exact ⟨_, .letter fun z e => by cases e; exact ⟨by decide +kernel, by decide +kernel⟩⟩
    · subst h
      exact ⟨_, .letter fun z e => by cases e; exact ⟨by decide +kernel, by decide +kernel⟩⟩
  · exact nomatch h
theorem no_items (p r : Int) (hr : 0 ≤ r) : ∀ {ds : List PyData}, ds.all (fun e => notTup e || letB e) = true → ds.any notTup = true → TBs 3 ds p r false
  | [], _, h => nomatch h
  | d :: ds, h1, h2 => by
    rw [List.all_cons, Bool.and_eq_true, Bool.or_eq_true] at h1
    rcases h1.1 with h | h
    · exact .no (.noT (not_tup h))
    · obtain ⟨b, t⟩ := let_tb h p r hr
      cases b with
      | false => exact .no t
      | true =>
        refine .yes t (no_items p r hr h1.2 ?_)
        rw [List.any_cons] at h2
        have : notTup d = false := by
          unfold letB at h
          split at h
          · rfl
          · exact nomatch h
        rw [this, Bool.false_or] at h2
        exact h2
theorem par_no {x : Str} {ds : List PyData} {n : Nat} (hx : x ∈ kds) (h : ∀ p r : Int, 0 ≤ r → needsS x p = false → TB n (.tuple (.str x :: ds)) p r false) : NoTr (n + 1) (.tuple (.str x :: ds)) := fun p r hr => by
  cases e : needsS x p with
  | false => exact (h p r hr e).mono (Nat.le_succ _)
  | true =>
    by_cases l : 0 < r
    · refine .par hx e l (h 0 (r - 1) (by omega) ?_)
      unfold needsS
      by_cases c1 : x = sCho
      · rw [if_pos c1]; rfl
      · rw [if_neg c1]
        by_cases c2 : x = sSeq ∨ x = sEmpty
        · rw [if_pos c2]; rfl
        · rw [if_neg c2]
          exact Bool.and_false _
    · exact .shut hx e (by omega)
theorem noB_tb {d : PyData} (h : noB d = true) : NoTr 6 d := by
  unfold noB at h
  split at h
  · exact fun p r hr => .nil
  · rename_i x ds
    rw [Bool.and_eq_true, decide_eq_true_eq] at h
    obtain ⟨hx, h⟩ := h
    refine par_no (n := 5) hx fun p r hr e => ?_
    by_cases c : x = sNone ∨ x = sEmpty
    · rw [if_pos c, decide_eq_true_eq] at h
      have := TB.leaf (n := 5) (x := x) (ds := ds) (p := p) (r := r) c e
      rw [decide_eq_false h] at this
      exact this
    rw [if_neg c] at h
    have n1 : x ≠ sNone := fun z => c (.inl z)
    have n2 : x ≠ sEmpty := fun z => c (.inr z)
    split at h
    · rename_i d
      unfold noOne at h
      rw [Bool.or_eq_true, Bool.or_eq_true, Bool.or_eq_true, Bool.or_eq_true] at h
      rcases h with (((h | h) | h) | h) | h
      · rw [Bool.and_eq_true, Bool.and_eq_true, decide_eq_true_eq] at h
        obtain ⟨⟨rfl, h1⟩, h2⟩ := h
        have := TB.letter (n := 5) (p := p) (r := r) (short_of h2)
        rw [show isLetD d = false by simpa using h1] at this
        exact this
      · rw [Bool.and_eq_true, Bool.and_eq_true, decide_eq_true_eq] at h
        obtain ⟨⟨rfl, h1⟩, h2⟩ := h
        have := TB.name (n := 5) (p := p) (r := r) (short_of h2)
        rw [show isNamD d = false by simpa using h1] at this
        exact this
      · exact .odd (of_decide_eq_true h)
      · rw [Bool.and_eq_true] at h
        obtain ⟨h1, h2⟩ := h
        unfold isSgnS at h1
        rw [Bool.or_eq_true, Bool.or_eq_true, decide_eq_true_eq, decide_eq_true_eq, decide_eq_true_eq] at h1
        rcases h1 with rfl | rfl | rfl
        · exact .sgn (n := 4) (k := 0) e (.noT (not_tup h2))
        · exact .sgn (n := 4) (k := 1) e (.noT (not_tup h2))
        · exact .sgn (n := 4) (k := 2) e (.noT (not_tup h2))
      · rw [Bool.and_eq_true, Bool.or_eq_true, decide_eq_true_eq, decide_eq_true_eq] at h
        obtain ⟨h1, h2⟩ := h
        refine .lst (n := 4) h1 e ?_
        cases sq : isSeqD d with
        | false => exact .noL sq
        | true =>
          rw [sq] at h2
          by_cases l : (itemsD d).length < 2
          · exact .few sq l
          · rw [decide_eq_false l] at h2
            have h2 : (decide ((itemsD d).length ≤ 100000) && (itemsD d).all (fun e => notTup e || letB e) && (itemsD d).any notTup) = true := h2
            rw [Bool.and_eq_true, Bool.and_eq_true, decide_eq_true_eq] at h2
            exact .all (n := 3) sq (by omega) h2.1.1 (no_items _ r hr h2.1.2 h2.2)
    · rename_i hne
      exact .many hx e n1 n2 fun z => by
        obtain ⟨d, rfl⟩ := List.length_eq_one_iff.mp z
        exact hne d rfl
  · rename_i ds h1 h2
    match ds, h1, h2 with
    | [], h1, _ => exact absurd rfl h1
    | d :: ds, _, h2 => exact fun p r hr => .noS fun x e => by subst e; exact h2 x ds rfl
  · rename_i h1 h2 h3
    exact fun p r hr => .noT fun ds e => h3 ds e
mutual
def okB : PyData → Bool
  | .none => true
  | .bool _ => true
  | .int i => decide (i.natAbs.log2 < 1920)
  | .str x => x.cps.toList.all fun c => decide (c < 16 ^ 8)
  | .list xs => okLB xs
  | .tuple xs => okLB xs
  | .dict kvs => okKB kvs
def okLB : List PyData → Bool
  | [] => true
  | x :: xs => okB x && okLB xs
def okKB : List (PyData × PyData) → Bool
  | [] => true
  | (k, v) :: r => okB k && (okB v && okKB r)
end
mutual
theorem okB_ok : ∀ {d : PyData}, okB d = true → Ok1 d
  | .none, _ => trivial
  | .bool _, _ => trivial
  | .int i, h => show i.natAbs.log2 < 1920 from of_decide_eq_true (show decide (i.natAbs.log2 < 1920) = true from h)
  | .str x, h => fun c hc => of_decide_eq_true (List.all_eq_true.mp h c hc)
  | .list xs, h => okLB_ok (ds := xs) h
  | .tuple xs, h => okLB_ok (ds := xs) h
  | .dict kvs, h => okKB_ok (ds := kvs) h
theorem okLB_ok : ∀ {ds : List PyData}, okLB ds = true → OkL ds
  | [], _ => trivial
  | x :: xs, h => by
    have h : (okB x && okLB xs) = true := h
    rw [Bool.and_eq_true] at h
    exact ⟨okB_ok h.1, okLB_ok h.2⟩
theorem okKB_ok : ∀ {ds : List (PyData × PyData)}, okKB ds = true → OkK ds
  | [], _ => trivial
  | (k, v) :: r, h => by
    have h : (okB k && (okB v && okKB r)) = true := h
    rw [Bool.and_eq_true, Bool.and_eq_true] at h
    exact ⟨okB_ok h.1, okB_ok h.2.1, okKB_ok h.2.2⟩
end
def bads : List PyData := xA0.datas ++ xA1.datas ++ xA2.datas ++ xA3.datas ++ xA4.datas ++ xA5.datas ++ [xA6.data] ++ xA7.datas ++ xA8.datas ++ xA9.datas ++ [xA10.data] ++ xA11.datas ++ xA12.datas
/-- what is told of each of them -/
structure Bad (d : PyData) : Prop where
  no : NoTr 6 d
  ok : Ok1 d
  wd : wid d ≤ 500
  dp : d.depth ≤ 4
theorem bads_len : bads.length = 58 := by decide +kernel
theorem bads_chk : (bads.all fun d => noB d && (okB d && (decide (wid d ≤ 500) && decide (d.depth ≤ 4)))) = true := by decide +kernel
theorem bad_of {d : PyData} (h : d ∈ bads) : Bad d := by
  have := List.all_eq_true.mp bads_chk d h
  rw [Bool.and_eq_true, Bool.and_eq_true, Bool.and_eq_true, decide_eq_true_eq, decide_eq_true_eq] at this
  exact ⟨noB_tb this.1, okB_ok this.2.1, this.2.2.1, this.2.2.2⟩
end KT

namespace KT
open PySem L2 Gd KM
def AtT (K : PySem.W.Frag) (H : Hp) (v : V) (d : PyData) : Prop := Db K H v d ∧ Top K H v d
inductive GL (K : PySem.W.Frag) (H : Hp) : List V → List PyData → Prop
  | nil : GL K H [] []
  | cons {v : V} {vs : List V} {d : PyData} {ds : List PyData} : AtT K H v d → GL K H vs ds → GL K H (v :: vs) (d :: ds)
section
variable {K : PySem.W.Frag} {H H' : Hp}
theorem GL.same (s : Same H H') : ∀ {vs : List V} {ds : List PyData}, GL K H vs ds → GL K H' vs ds
  | _, _, .nil => .nil
  | _, _, .cons h r => .cons ⟨h.1.same s, h.2.same s⟩ (r.same s)
theorem GL.app : ∀ {vs ws : List V} {ds es : List PyData}, GL K H vs ds → GL K H ws es → GL K H (vs ++ ws) (ds ++ es)
  | _, _, _, _, .nil, r => r
  | _, _, _, _, .cons h t, r => .cons h (t.app r)
theorem GL.len : ∀ {vs : List V} {ds : List PyData}, GL K H vs ds → vs.length = ds.length
  | _, _, .nil => rfl
  | _, _, .cons _ r => by rw [List.length_cons, List.length_cons, r.len]
theorem GL.at : ∀ {vs : List V} {ds : List PyData} {i : Nat} {d : PyData}, GL K H vs ds → ds[i]? = some d → ∃ v, vs[i]? = some v ∧ AtT K H v d
  | _, _, 0, _, .cons h _, e => by cases e; exact ⟨_, rfl, h⟩
  | _, _, i + 1, _, .cons _ r, e => r.at (i := i) e
end
def Lits.topB : Lits → Bool
  | .nil => true
  | .cons x l => x.topB && l.topB
section
variable {K : PySem.W.Frag} {a0 : Addr}
theorem items_ok : ∀ (l : Lits) (σ : L2.St) (G H : Hp) (Q : List V → Hp → Prop), l.small = true → l.topB = true → σ[1]? = some (some (.ref a0)) → G a0 = some (.tup [.str sLetter, .str "b"]) → Same G H →
    (∀ vs G' H', Ext G H G' H' → GL K G' vs l.datas → Q vs H') → l.ta σ H Q
  | .nil, σ, G, H, Q, _, _, h1, ha, s, q => q [] G H (.refl s) .nil
  | .cons x l, σ, G, H, Q, sm, tp, h1, ha, s, q => by
    have sm : (Lit.small x && Lits.small l) = true := sm
    have tp : (Lit.topB x && Lits.topB l) = true := tp
    rw [Bool.and_eq_true] at sm tp
    exact lit_ok x σ G H _ sm.1 h1 ha s fun v G1 H1 e1 d1 t1 => items_ok l σ G1 H1 _ sm.2 tp.2 h1 (e1.g _ _ ha) e1.i fun vs G2 H2 e2 d2 => q _ _ _ (e1.trans e2) (.cons ⟨d1.same e2.g, (t1 tp.1).same e2.g⟩ d2)
end
/-- the list of values grows -/
structure Gw (K : PySem.W.Frag) (G0 H0 : Hp) (p a0 L : Addr) (m0 : Nat) (ds : List PyData) (G H : Hp) : Prop where
  ex : ∃ xs, H L = some (.lst xs) ∧ GL K G xs ds
  one : G a0 = some (.tup [.str sLetter, .str "b"])
  s : Same G H
  g0 : Same G0 G
  nn : ∀ c, G0 c = none → H0 c ≠ none → G c = none
  nl : G L = none
  l0 : H0 L = none
  k : ∀ b o, H0 b = some o → H b = some o
  sm : ds.length ≤ 200
theorem Same.set' {G H : Hp} (s : Same G H) {p : Addr} (h : G p = none) {o : HO} : Same G (upd H p o) := fun b u e => by
  rw [upd_ne (ne_of_none e h)]
  exact s _ _ e
section
variable {K : PySem.W.Frag} {G0 H0 G H : Hp} {p a0 L : Addr} {m0 : Nat} {ds : List PyData} {σ : L2.St} {D : Ends}
/-- x = x + [..] -/
theorem cat_ok (g : Gw K G0 H0 p a0 L m0 ds G H) (l : Lits) (sm : l.small = true) (tp : l.topB = true) (ll : l.len ≤ 20) (hd : ds.length ≤ 100) (q : ∀ L' G' H', Gw K G0 H0 p a0 L' m0 (ds ++ l.datas) G' H' → D.nx [some (.ref p), some (.ref a0), some (.ref L')] H') :
    tAsg (tOp rCat (tVar 2) (tLst l.ta)) (gName 2) D [some (.ref p), some (.ref a0), some (.ref L)] H := by
  obtain ⟨xs, hL, gl⟩ := g.ex
  have sz := sizeLine_eq
  refine ⟨_, rfl, items_ok (K := K) l _ G H _ sm tp rfl g.one g.s fun vs G1 H1 e1 g1 => ?_⟩
  have l1 := g1.len
  have l2 := gl.len
  rw [datas_len (K := K) (a0 := a0)] at l1
  refine ⟨by omega, fun t ht => ⟨L, t, xs, vs, rfl, rfl, same_new ht _ _ (e1.s _ _ hL), upd_same, by omega, fun L' hL' => q L' G1 _ ?_⟩⟩
  have n1 : L' ≠ t := fun z => by rw [z, upd_same] at hL'; exact nomatch hL'
  have hz := hL'
  rw [upd_ne n1] at hz
  have a1 := (e1.out ht (o := .lst vs)).out hL' (o := .lst (xs ++ vs))
  have inK : ∀ {c : Addr}, H0 c ≠ none → H c ≠ none := fun h z => by
    obtain ⟨o, e⟩ := Option.ne_none_iff_exists'.mp h
    rw [g.k _ _ e] at z
    exact nomatch z
  have l0 : H0 L' = none := by
    cases e : H0 L' with
    | none => rfl
    | some o => exact absurd hz (by rw [e1.s _ _ (g.k _ _ e)]; exact fun z => nomatch z)
  exact ⟨⟨_, upd_same, (gl.same e1.g).app g1⟩, e1.g _ _ g.one, a1.i, g.g0.trans e1.g, fun c h1 h2 => e1.n c (g.nn c h1 h2) (inK h2), gnone e1.i hz, l0, fun b o h => a1.s _ _ (g.k _ _ h), by rw [List.length_append, datas_len (K := K) (a0 := a0)]; omega⟩
/-- x.append(..) -/
theorem app_ok (g : Gw K G0 H0 p a0 L m0 ds G H) (x : Lit) (sm : x.small = true) (tp : x.topB = true) (hd : ds.length ≤ 100) (q : ∀ G' H', Gw K G0 H0 p a0 L m0 (ds ++ [x.data]) G' H' → D.nx [some (.ref p), some (.ref a0), some (.ref L)] H') :
    tDrop (tBM K "list" rAppend (tVar 2) (tCons x.te tNil)) D [some (.ref p), some (.ref a0), some (.ref L)] H := by
  obtain ⟨xs, hL, gl⟩ := g.ex
  have sz := sizeLine_eq
  refine ⟨_, rfl, .inl ⟨rfl, _, SqL.of hL⟩, lit_ok (K := K) x _ G H _ sm rfl g.one g.s fun v G1 H1 e1 d1 t1 => ?_⟩
  have l2 := gl.len
  have hL1 := e1.s _ _ hL
  have nl1 := e1.n L g.nl (by rw [hL]; exact fun z => nomatch z)
  refine ⟨L, xs, v, rfl, rfl, hL1, by omega, q G1 _ ⟨⟨_, upd_same, (gl.same e1.g).app (.cons ⟨d1, t1 tp⟩ .nil)⟩, e1.g _ _ g.one, Same.set' e1.i nl1, g.g0.trans e1.g, fun c h1 h2 => e1.n c (g.nn c h1 h2) ?_, nl1, g.l0, fun b o h => ?_, by rw [List.length_append]; show ds.length + 1 ≤ 200; omega⟩⟩
  · obtain ⟨o, e⟩ := Option.ne_none_iff_exists'.mp h2
    rw [g.k _ _ e]
    exact fun z => nomatch z
  · rw [upd_ne (fun z => by rw [z, g.l0] at h; exact nomatch h)]
    exact e1.s _ _ (g.k _ _ h)
theorem cat_seq {b : TS} (g : Gw K G0 H0 p a0 L m0 ds G H) (l : Lits) (sm : l.small = true) (tp : l.topB = true) (ll : l.len ≤ 20) (hd : ds.length ≤ 100) (q : ∀ L' G' H', Gw K G0 H0 p a0 L' m0 (ds ++ l.datas) G' H' → b D [some (.ref p), some (.ref a0), some (.ref L')] H') :
    tSeq (tAsg (tOp rCat (tVar 2) (tLst l.ta)) (gName 2)) b D [some (.ref p), some (.ref a0), some (.ref L)] H := cat_ok g l sm tp ll hd q
theorem app_seq {b : TS} (g : Gw K G0 H0 p a0 L m0 ds G H) (x : Lit) (sm : x.small = true) (tp : x.topB = true) (hd : ds.length ≤ 100) (q : ∀ G' H', Gw K G0 H0 p a0 L m0 (ds ++ [x.data]) G' H' → b D [some (.ref p), some (.ref a0), some (.ref L)] H') :
    tSeq (tDrop (tBM K "list" rAppend (tVar 2) (tCons x.te tNil))) b D [some (.ref p), some (.ref a0), some (.ref L)] H := app_ok g x sm tp hd q
theorem lst_seq {b : TS} {z : Option V} (l : Lits) (sm : l.small = true) (tp : l.topB = true) (ll : l.len ≤ 20) (one : G a0 = some (.tup [.str sLetter, .str "b"])) (s : Same G H) (q : ∀ L vs G' H', Ext G H G' H' → GL K G' vs l.datas → vs.length ≤ 20 → H' L = none → b D [some (.ref p), some (.ref a0), some (.ref L)] (upd H' L (.lst vs))) :
    tSeq (tAsg (tLst l.ta) (gName 2)) b D [some (.ref p), some (.ref a0), z] H := by
  refine items_ok (K := K) l [some (.ref p), some (.ref a0), z] G H _ sm tp rfl one s fun vs G1 H1 e1 g1 => ?_
  have sz := sizeLine_eq
  have l1 := g1.len
  rw [datas_len (K := K) (a0 := a0)] at l1
  exact ⟨by omega, fun L hL => q L vs G1 H1 e1 g1 (by omega) hL⟩
end
def spNo (K : PySem.W.Frag) : Sp := fun vs H Q _ => ∃ (p : Addr) (m0 : Nat) (G0 : Hp), vs = [.ref p] ∧ BoxC H p m0 ∧ m0 ≤ 90000 ∧ Same G0 H ∧ G0 p = none ∧
  ∀ v d G' H', d ∈ bads → AtT K G' v d → Same G0 G' → (∀ c, G0 c = none → H c ≠ none → G' c = none) → Same G' H' → BoxC H' p (m0 + 1) → (∀ b o, b ≠ p → H b = some o → H' b = some o) → Q v H'
section
variable {P : Program} {w : World} {K : PySem.W.Frag} {mg : Str → Option Value} {base : Heap}
abbrev s_law_no_tree : Stmt := top 51
theorem sc_law_no_tree : FnScope ["_law_box_here", "_law_one", "_law_some"] ["_law_box_here"] (defScope s_law_no_tree) := ⟨rfl, rfl, rfl, by decide +kernel, rfl, by decide +kernel, by decide +kernel⟩
theorem ok_no {f f1 : Addr} {fd fd1 : FuncData} (F : Fun K "_law_no_tree" "_law_no_tree" s_law_no_tree f fd)
    (D__law_take : Df P w K mg base CX0 1 "_law_take" f1 fd1 ["_law_box_here", "_law_many_here"] spTakeC) : FnG P w K mg base CX0 2 f fd ["_law_box_here"] (spNo K) := by
  refine okG F sc_law_no_tree (fun vs H Q E h => ?_) (fun cdv A outer s H vs Q E hc hr h => ?_)
  · obtain ⟨p, m0, G0, rfl, _⟩ := h
    rfl
  obtain ⟨p, m0, G0, rfl, hb, hm, sG0, gp0, q⟩ := h
  refine ⟨_, (pss_cons (ps_set (i := 1) sc_law_no_tree.nd rfl (Or.inl rfl) (pe_tup (pa_cons pe_str (pa_cons pe_str pa_nil))))
 (pss_cons (ps_set (i := 2) sc_law_no_tree.nd rfl (Or.inl rfl) (pe_lst (pa_cons pe_non (pa_cons pe_int (pa_cons pe_bl (pa_cons pe_dnewK (pa_cons (pe_lst pa_nil) (pa_cons (pe_tup pa_nil) (pa_cons pe_str (pa_cons (pe_lst (pa_cons pe_str (pa_cons pe_str pa_nil))) (pa_cons (pe_tup (pa_cons pe_str pa_nil)) (pa_cons (pe_tup (pa_cons pe_str (pa_cons pe_str pa_nil))) (pa_cons (pe_tup (pa_cons pe_str (pa_cons pe_str pa_nil))) pa_nil)))))))))))))
 (pss_cons (ps_set (i := 2) sc_law_no_tree.nd rfl (Or.inl rfl) (pe_op op_cat (pv 2) (pe_lst (pa_cons (pe_tup (pa_cons pe_str (pa_cons pe_str pa_nil))) (pa_cons (pe_tup (pa_cons pe_str (pa_cons pe_int pa_nil))) (pa_cons (pe_tup (pa_cons pe_str (pa_cons (pe_lst (pa_cons pe_str pa_nil)) pa_nil))) (pa_cons (pe_tup (pa_cons pe_str (pa_cons pe_str pa_nil))) (pa_cons (pe_tup (pa_cons pe_str (pa_cons pe_str pa_nil))) pa_nil))))))))
 (pss_cons (ps_set (i := 2) sc_law_no_tree.nd rfl (Or.inl rfl) (pe_op op_cat (pv 2) (pe_lst (pa_cons (pe_tup (pa_cons pe_str (pa_cons pe_str pa_nil))) (pa_cons (pe_tup (pa_cons pe_str (pa_cons pe_int pa_nil))) (pa_cons (pe_tup (pa_cons pe_str (pa_cons pe_non pa_nil))) (pa_cons (pe_tup (pa_cons pe_str (pa_cons (pe_lst pa_nil) pa_nil))) (pa_cons (pe_tup (pa_cons pe_str (pa_cons (pe_lst (pa_cons (pv 1) pa_nil)) pa_nil))) pa_nil))))))))
 (pss_cons (ps_set (i := 2) sc_law_no_tree.nd rfl (Or.inl rfl) (pe_op op_cat (pv 2) (pe_lst (pa_cons (pe_tup (pa_cons pe_str (pa_cons (pe_lst (pa_cons (pv 1) pa_nil)) pa_nil))) (pa_cons (pe_tup (pa_cons pe_str (pa_cons (pe_tup pa_nil) pa_nil))) pa_nil)))))
 (pss_cons (ps_set (i := 2) sc_law_no_tree.nd rfl (Or.inl rfl) (pe_op op_cat (pv 2) (pe_lst (pa_cons (pe_tup (pa_cons pe_str (pa_cons (pe_disp (pps_cons pe_int (pv 1) (pps_cons pe_int (pv 1) pps_nil)) (by rfl) (by rfl) (fun z => by cases z) (by decide)) pa_nil))) (pa_cons (pe_tup (pa_cons pe_str (pa_cons pe_str pa_nil))) (pa_cons (pe_tup (pa_cons pe_str (pa_cons (pv 1) pa_nil))) (pa_cons (pe_tup (pa_cons pe_str pa_nil)) (pa_cons (pe_tup (pa_cons pe_str (pa_cons pe_non pa_nil))) pa_nil))))))))
 (pss_cons (ps_set (i := 2) sc_law_no_tree.nd rfl (Or.inl rfl) (pe_op op_cat (pv 2) (pe_lst (pa_cons (pe_tup (pa_cons pe_str (pa_cons (pv 1) (pa_cons (pv 1) pa_nil)))) (pa_cons (pe_tup (pa_cons pe_str (pa_cons (pe_lst (pa_cons (pv 1) (pa_cons (pv 1) pa_nil))) pa_nil))) (pa_cons (pe_tup (pa_cons pe_str (pa_cons (pv 1) pa_nil))) (pa_cons (pe_tup (pa_cons pe_non pa_nil)) (pa_cons (pe_tup (pa_cons pe_str (pa_cons pe_str pa_nil))) (pa_cons (pe_tup (pa_cons pe_str pa_nil)) pa_nil)))))))))
 (pss_cons (ps_expr (pe_bm PySem.F.plainAttrs_list PySem.F.slot_list_append PySem.F.type_list_append mt_append (pv 2) (pa_cons (pe_tup (pa_cons pe_int (pa_cons (pv 1) pa_nil))) pa_nil)))
 (pss_cons (ps_set (i := 2) sc_law_no_tree.nd rfl (Or.inl rfl) (pe_op op_cat (pv 2) (pe_lst (pa_cons (pe_tup (pa_cons (pe_lst (pa_cons pe_str pa_nil)) (pa_cons (pv 1) pa_nil))) (pa_cons (pe_tup (pa_cons pe_dnewK (pa_cons (pv 1) pa_nil))) (pa_cons (pe_tup (pa_cons pe_str (pa_cons pe_int pa_nil))) (pa_cons (pe_tup (pa_cons pe_str (pa_cons pe_non pa_nil))) (pa_cons (pe_tup (pa_cons pe_str (pa_cons pe_bl pa_nil))) (pa_cons (pe_tup (pa_cons pe_str (pa_cons pe_int pa_nil))) pa_nil)))))))))
 (pss_cons (ps_set (i := 2) sc_law_no_tree.nd rfl (Or.inl rfl) (pe_op op_cat (pv 2) (pe_lst (pa_cons (pe_tup (pa_cons pe_str (pa_cons pe_non pa_nil))) (pa_cons (pe_tup (pa_cons pe_str (pa_cons (pe_lst (pa_cons pe_str pa_nil)) pa_nil))) (pa_cons (pe_tup (pa_cons pe_str (pa_cons pe_str (pa_cons pe_str pa_nil)))) (pa_cons (pe_tup (pa_cons pe_str (pa_cons pe_str (pa_cons pe_str pa_nil)))) pa_nil)))))))
 (pss_cons (ps_set (i := 2) sc_law_no_tree.nd rfl (Or.inl rfl) (pe_op op_cat (pv 2) (pe_lst (pa_cons (pe_tup (pa_cons pe_str (pa_cons (pe_lst (pa_cons (pv 1) (pa_cons (pv 1) pa_nil))) (pa_cons (pv 1) pa_nil)))) (pa_cons (pe_tup (pa_cons pe_str (pa_cons (pv 1) (pa_cons (pv 1) pa_nil)))) pa_nil)))))
 (pss_cons (ps_expr (pe_bm PySem.F.plainAttrs_list PySem.F.slot_list_append PySem.F.type_list_append mt_append (pv 2) (pa_cons (pe_tup (pa_cons pe_str (pa_cons (pe_dispT (hu_of hr) (pps_cons (pe_tup (pa_cons pe_str (pa_cons pe_str pa_nil))) pe_int (pps_cons (pe_tup (pa_cons pe_str (pa_cons pe_str pa_nil))) pe_int pps_nil)) (by rfl) (by rfl) (fun z => by cases z) (by decide)) pa_nil))) pa_nil)))
 (pss_cons (ps_set (i := 2) sc_law_no_tree.nd rfl (Or.inl rfl) (pe_op op_cat (pv 2) (pe_lst (pa_cons (pe_tup (pa_cons pe_str (pa_cons pe_str pa_nil))) (pa_cons (pe_tup (pa_cons pe_str (pa_cons pe_str pa_nil))) (pa_cons (pe_tup (pa_cons pe_str (pa_cons pe_str pa_nil))) (pa_cons (pe_tup (pa_cons pe_str (pa_cons pe_str pa_nil))) (pa_cons (pe_tup (pa_cons pe_str (pa_cons pe_str pa_nil))) pa_nil))))))))
 (pss_cons (ps_set (i := 2) sc_law_no_tree.nd rfl (Or.inl rfl) (pe_op op_cat (pv 2) (pe_lst (pa_cons (pe_tup (pa_cons pe_str (pa_cons (pe_lst (pa_cons (pv 1) (pa_cons (pv 1) pa_nil))) (pa_cons (pv 1) pa_nil)))) (pa_cons (pe_tup (pa_cons pe_str (pa_cons (pe_lst (pa_cons (pv 1) (pa_cons pe_str pa_nil))) pa_nil))) (pa_cons (pe_tup (pa_cons (pe_tup (pa_cons pe_str pa_nil)) pa_nil)) (pa_cons (pe_tup (pa_cons pe_str (pa_cons pe_str pa_nil))) (pa_cons (pe_lst (pa_cons (pv 1) (pa_cons (pv 1) pa_nil))) pa_nil))))))))
 (pss_one (ps_ret (pe_ix ix_list (pv 2) (pe_d D__law_take hc (hr.mono (by omega)) (by rfl) (fun _ => passN) (pa_cons (pv 0) (pa_cons pe_int pa_nil))) (fun _ _ => rfl)))))))))))))))))), ?_⟩
  have sz := sizeLine_eq
  refine ⟨by show 2 ≤ sizeLine; omega, fun a0 ha => ?_⟩
  have w0 : G0 a0 = none := gnone sG0 ha
  have n0 : a0 ≠ p := fun z => by
    obtain ⟨a, b, c, e, _⟩ := hb
    rw [z, e] at ha
    exact nomatch ha
  show tSeq (tAsg (tLst xA0.ta) (gName 2)) _ _ [some (.ref p), some (.ref a0), none] _
  refine lst_seq (K := K) (G := upd G0 a0 (.tup [.str sLetter, .str "b"])) xA0 (by decide +kernel) (by decide +kernel) (by decide +kernel) upd_same (fun b u e => ?_) fun L vs G1 H1 e1 g1 gl hL => ?_
  · by_cases z : b = a0
    · rw [z, upd_same] at e ⊢
      exact e
    · rw [upd_ne z] at e ⊢
      exact sG0 _ _ e
  have ll : (xA0.datas).length = 11 := by decide +kernel
  have inH : ∀ {c : Addr}, H c ≠ none → upd H a0 (.tup [.str sLetter, .str "b"]) c ≠ none := fun {c} h z => by
    by_cases zz : c = a0
    · rw [zz, upd_same] at z
      exact nomatch z
    · rw [upd_ne zz] at z
      exact h z
  have pt : H p ≠ none := by
    obtain ⟨a, b, c, e, _⟩ := hb
    rw [e]
    exact fun z => nomatch z
  have fr : ∀ b o, H b = some o → H1 b = some o := fun b o h => e1.s _ _ (by rw [upd_ne (ne_of_none h ha)]; exact h)
  have l0 : H L = none := by
    cases e : H L with
    | none => rfl
    | some o => exact absurd hL (by rw [fr _ _ e]; exact fun z => nomatch z)
  have g : Gw K G0 H p a0 L m0 xA0.datas G1 (upd H1 L (.lst vs)) := ⟨⟨_, upd_same, g1⟩, e1.g _ _ upd_same, Same.set' e1.i (gnone e1.i hL), fun b o h => e1.g _ _ (by rw [upd_ne (ne_of_none h w0)]; exact h), fun c h1 h2 => e1.n c (by rw [upd_ne (fun z => h2 (by rw [z]; exact ha))]; exact h1) (inH h2), gnone e1.i hL, l0, fun b o h => by rw [upd_ne (ne_of_none (fr _ _ h) hL)]; exact fr _ _ h, by omega⟩
  show tSeq (tAsg (tOp rCat (tVar 2) (tLst xA1.ta)) (gName 2)) _ _ _ _
  refine cat_seq g xA1 (by decide +kernel) (by decide +kernel) (by decide +kernel) (by decide +kernel) fun L G' H' g => ?_
  show tSeq (tAsg (tOp rCat (tVar 2) (tLst xA2.ta)) (gName 2)) _ _ _ _
  refine cat_seq g xA2 (by decide +kernel) (by decide +kernel) (by decide +kernel) (by decide +kernel) fun L G' H' g => ?_
  show tSeq (tAsg (tOp rCat (tVar 2) (tLst xA3.ta)) (gName 2)) _ _ _ _
  refine cat_seq g xA3 (by decide +kernel) (by decide +kernel) (by decide +kernel) (by decide +kernel) fun L G' H' g => ?_
  show tSeq (tAsg (tOp rCat (tVar 2) (tLst xA4.ta)) (gName 2)) _ _ _ _
  refine cat_seq g xA4 (by decide +kernel) (by decide +kernel) (by decide +kernel) (by decide +kernel) fun L G' H' g => ?_
  show tSeq (tAsg (tOp rCat (tVar 2) (tLst xA5.ta)) (gName 2)) _ _ _ _
  refine cat_seq g xA5 (by decide +kernel) (by decide +kernel) (by decide +kernel) (by decide +kernel) fun L G' H' g => ?_
  show tSeq (tDrop (tBM K "list" rAppend (tVar 2) (tCons xA6.te tNil))) _ _ _ _
  refine app_seq g xA6 (by decide +kernel) (by decide +kernel) (by decide +kernel) fun G' H' g => ?_
  show tSeq (tAsg (tOp rCat (tVar 2) (tLst xA7.ta)) (gName 2)) _ _ _ _
  refine cat_seq g xA7 (by decide +kernel) (by decide +kernel) (by decide +kernel) (by decide +kernel) fun L G' H' g => ?_
  show tSeq (tAsg (tOp rCat (tVar 2) (tLst xA8.ta)) (gName 2)) _ _ _ _
  refine cat_seq g xA8 (by decide +kernel) (by decide +kernel) (by decide +kernel) (by decide +kernel) fun L G' H' g => ?_
  show tSeq (tAsg (tOp rCat (tVar 2) (tLst xA9.ta)) (gName 2)) _ _ _ _
  refine cat_seq g xA9 (by decide +kernel) (by decide +kernel) (by decide +kernel) (by decide +kernel) fun L G' H' g => ?_
  show tSeq (tDrop (tBM K "list" rAppend (tVar 2) (tCons xA10.te tNil))) _ _ _ _
  refine app_seq g xA10 (by decide +kernel) (by decide +kernel) (by decide +kernel) fun G' H' g => ?_
  show tSeq (tAsg (tOp rCat (tVar 2) (tLst xA11.ta)) (gName 2)) _ _ _ _
  refine cat_seq g xA11 (by decide +kernel) (by decide +kernel) (by decide +kernel) (by decide +kernel) fun L G' H' g => ?_
  show tSeq (tAsg (tOp rCat (tVar 2) (tLst xA12.ta)) (gName 2)) _ _ _ _
  refine cat_seq g xA12 (by decide +kernel) (by decide +kernel) (by decide +kernel) (by decide +kernel) fun L G' H' g => ?_
  have g : Gw K G0 H p a0 L m0 bads G' H' := g
  obtain ⟨xs, hx, gx⟩ := g.ex
  have bx : BoxC H' p m0 := by
    obtain ⟨a, b, c, e, r⟩ := hb
    exact ⟨a, b, c, g.k _ _ e, r⟩
  have bl := bads_len
  have lx := gx.len
  have nL : L ≠ p := fun z => pt (by rw [← z]; exact g.l0)
  have np : G' p = none := g.nn p gp0 pt
  refine ⟨_, rfl, _, rfl, p, 58, m0, rfl, bx, by omega, by decide, by decide, fun d H2 d0 d1 t2 => ?_⟩
  obtain ⟨k, rfl⟩ := Int.eq_ofNat_of_zero_le d0
  have hk : k < bads.length := by omega
  obtain ⟨v, hv, at'⟩ := gx.at (List.getElem?_eq_getElem hk)
  have s2 : Same G' H2 := fun b o h => by
    rw [t2.2 b (fun z => by rw [z, np] at h; exact nomatch h)]
    exact g.s _ _ h
  refine ⟨L, xs, _, _, rfl, rfl, SqL.of (by rw [t2.2 L nL]; exact hx), atI_nat (j := k) hv, ?_⟩
  exact q _ _ G' H2 (List.getElem_mem hk) at' g.g0 g.nn s2 t2.1 fun b o n h => by
    rw [t2.2 b n]
    exact g.k _ _ h
end
end KT

set_option maxHeartbeats 4000000
/-! own rules: a set made of a list of texts, and its members in order -/
namespace Gd
open PySem PySem.Spec PyProof.Rows L2
/-- what one more text makes of the members -/
def addW (l : List Str) (k : Str) : List Str := if k ∈ l then l else k :: l
/-- the members of a list of texts -/
def memW (xs : List Str) : List Str := xs.foldl addW []
theorem addW_mem {l : List Str} {k x : Str} : x ∈ addW l k ↔ x = k ∨ x ∈ l := by
  unfold addW
  by_cases c : k ∈ l
  · rw [if_pos c]
    exact ⟨.inr, fun h => h.elim (fun e => e ▸ c) id⟩
  · rw [if_neg c]
    exact List.mem_cons
theorem addW_nd {l : List Str} {k : Str} (h : l.Nodup) : (addW l k).Nodup := by
  unfold addW
  by_cases c : k ∈ l
  · rw [if_pos c]
    exact h
  · rw [if_neg c]
    exact List.nodup_cons.mpr ⟨c, h⟩
theorem addW_len (l : List Str) (k : Str) : (addW l k).length ≤ l.length + 1 := by
  unfold addW
  split
  · omega
  · exact Nat.le_refl _
theorem foldW_mem : ∀ (xs l : List Str) (x : Str), x ∈ xs.foldl addW l ↔ x ∈ l ∨ x ∈ xs
  | [], l, x => ⟨.inl, fun h => h.elim id (fun z => nomatch z)⟩
  | y :: xs, l, x => by
    rw [List.foldl_cons, foldW_mem xs (addW l y) x, addW_mem, List.mem_cons]
    constructor
    · rintro ((h | h) | h)
      · exact .inr (.inl h)
      · exact .inl h
      · exact .inr (.inr h)
    · rintro (h | h | h)
      · exact .inl (.inr h)
      · exact .inl (.inl h)
      · exact .inr h
theorem memW_mem {xs : List Str} {x : Str} : x ∈ memW xs ↔ x ∈ xs := (foldW_mem xs [] x).trans ⟨fun h => h.elim (fun z => nomatch z) id, .inr⟩
theorem foldW_nd : ∀ (xs l : List Str), l.Nodup → (xs.foldl addW l).Nodup
  | [], _, h => h
  | y :: xs, l, h => foldW_nd xs (addW l y) (addW_nd h)
theorem memW_nd (xs : List Str) : (memW xs).Nodup := foldW_nd xs [] List.nodup_nil
theorem foldW_len : ∀ (xs l : List Str), (xs.foldl addW l).length ≤ l.length + xs.length
  | [], l => Nat.le_refl _
  | y :: xs, l => by
    have h1 := foldW_len xs (addW l y)
    have h2 := addW_len l y
    rw [List.foldl_cons, List.length_cons]
    omega
theorem memW_len (xs : List Str) : (memW xs).length ≤ xs.length := by
  have h := foldW_len xs []
  rw [List.length_nil] at h
  unfold memW
  omega
theorem memW_snoc (xs : List Str) (k : Str) : memW (xs ++ [k]) = addW (memW xs) k := by
  unfold memW
  rw [List.foldl_append]
  rfl
abbrev byText (w : World) : Bool := w.params.followText "set-order"
/-- the set of texts at a, as the model lays it; it can be walked -/
def SetT (P : Program) (w : World) (h : Heap) (a : Addr) (l : List Str) : Prop :=
  ∃ D : Froz.SD, h.get? a = some (Froz.sObj "set" D) ∧ Froz.TxOk P w D l ∧ l.Nodup ∧ Ris D.2.2.place.toList ∧ (byText w = true ∨ D.2.2.led = true)
section
variable {P : Program} {w : World} {A : Around} {E : Value → Shared → Prop} {s : Shared} {a : Addr} {l : List Str}
theorem SetT.keep {h h' : Heap} (S : SetT P w h a l) (k : ∀ o, h.get? a = some o → h'.get? a = some o) : SetT P w h' a l := by
  obtain ⟨D, d1, d2⟩ := S
  exact ⟨D, k _ d1, d2⟩
theorem tail_ris (ep : Nat) (es : Array (Int × Value)) (t : SetTable) (b : Bool) (r : Ris t.place.toList) : Ris (Froz.tailTx ep es t b).2.2.place.toList ∧ (Froz.tailTx ep es t b).2.2.led = t.led := by
  unfold Froz.tailTx
  split
  · exact ⟨relayAll_ris t es _, relayAll_led t es _⟩
  · exact ⟨r, rfl⟩
theorem add_ris {D : Froz.SD} (h : Int) (v : Value) (r : Ris D.2.2.place.toList) : Ris (Froz.addTx h v D).2.2.place.toList ∧ (Froz.addTx h v D).2.2.led = D.2.2.led := by
  have r1 := layNew_ris D.2.2 D.1 h v r
  have r2 := layNew_led D.2.2 D.1 h v
  unfold Froz.addTx
  have r3 : Ris (if (layNew D.2.2 D.1 h v).2.1.plain = true then { (layNew D.2.2 D.1 h v).2.1 with plain := false } else (layNew D.2.2 D.1 h v).2.1).place.toList := by split <;> exact r1
  have r4 : (if (layNew D.2.2 D.1 h v).2.1.plain = true then { (layNew D.2.2 D.1 h v).2.1 with plain := false } else (layNew D.2.2 D.1 h v).2.1).led = D.2.2.led := by split <;> exact r2
  have q := tail_ris D.2.1 (layNew D.2.2 D.1 h v).1 _ (layNew D.2.2 D.1 h v).2.2.1 r3
  exact ⟨q.1, q.2.trans r4⟩
/-- a text that is there already -/
theorem old_x {D : Froz.SD} {k : Str} {u : Tok} {Q : Bool → Shared → Prop} (ho : s.heap.get? a = some (Froz.sObj "set" D)) (F : Froz.TxOk P w D l) (hk : k ∈ l) (hb : l.length < scanBound) (h : Q false s) :
    wpAny (model P w) A (setAddHashed a (.str k u) (hashStr w k)) Q E s := by
  have here := Froz.is_str (P := P) (w := w) k u
  have few : D.1.size < scanBound := F.sz.symm ▸ hb
  obtain ⟨e, he, heq⟩ := (F.mem k).mp hk
  have found : ∃ j, List.findIdx? (fun z => (PySem.strKind P w).is k z.2) D.1.toList = some j := by
    cases c : List.findIdx? (fun z => (PySem.strKind P w).is k z.2) D.1.toList with
    | some j => exact ⟨j, rfl⟩
    | none =>
      have no := List.findIdx?_eq_none_iff.mp c e he
      rw [heq] at no
      exact nomatch no
  obtain ⟨j, hj⟩ := found
  unfold setAddHashed
  unfold setAddHashedIn
  apply wpAny_holding
  apply wpAny_bind
  apply wpAny_setState_of ho rfl F.fit
  dsimp only
  rw [byScan_of (knd := PySem.strKind P w) rfl few F.el, if_pos rfl]
  unfold setAddByScan
  apply wpAny_bind
  apply wpAny_bind
  apply wpAny_rule
  apply wpAny_bind
  refine wpAny_setScan_of (knd := PySem.strKind P w) here ho rfl F.fit F.el ?_
  rw [hj]
  exact wpAny_pure (wpAny_pure h)
theorem setT_add {k : Str} {u : Tok} {Q : Bool → Shared → Prop} (S : SetT P w s.heap a l) (room : l.length + 1 < scanBound)
    (h : ∀ h', Heap.SameBut a s.heap h' → SetT P w h' a (addW l k) → ∀ b, Q b { s with heap := h' }) : wpAny (model P w) A (setAddHashed a (.str k u) (hashStr w k)) Q E s := by
  obtain ⟨D, d1, d2, d3, d4, d5⟩ := S
  by_cases c : k ∈ l
  · refine old_x d1 d2 c (by omega) (h s.heap (Heap.SameBut.refl a s.heap) ⟨D, d1, ?_, ?_, d4, d5⟩ false)
    · unfold addW
      rw [if_pos c]
      exact d2
    · exact addW_nd d3
  · obtain ⟨r1, r2⟩ := add_ris (hashStr w k) (.str k u) d4
    refine Froz.add_x d1 d2 c room (h _ (Heap.SameBut.update ..) ⟨_, Froz.get_upd _ d1 rfl, ?_, addW_nd d3, r1, by rw [r2]; exact d5⟩ true)
    unfold addW
    rw [if_neg c]
    exact Froz.add_ok u d2
/-- the walk that adds -/
theorem loopT {I : Addr} {fp wr : List Addr} {G : Array GenState → Array GenState → Prop} {n : Nat} {Pv : Nat → Value → Prop} {St : Nat → Shared → Prop} {R : Result → Shared → Prop} (W : WalksS P w A.in1 I fp wr G n Pv St)
    (hfp : a ∉ fp) (xs : List Str) (hn : xs.length = n) (hval : ∀ i v, Pv i v → ∃ t, v = .str (xs.getD i Str.empty) t) (hb : n + 1 < scanBound) :
    ∀ (m i : Nat) (s : Shared), i + m = n → St i s → SetT P w s.heap a (memW (xs.take i)) →
      (∀ s', Moved (a :: wr) G s s' → SetT P w s'.heap a (memW xs) → R (.ok (.ret .none)) s') → codeAny (model P w) A (.builtin "set.update.loop" ⟨[.ref a, .ref I], []⟩) R s := by
  have awr : a ∉ wr := fun z => hfp (W.sub _ z)
  have more : ∀ b ∈ wr, b ∈ a :: wr := fun _ z => .tail _ z
  intro m
  induction m with
  | zero =>
    intro i s e st S q
    have e : i = n := e
    subst e
    rw [List.take_of_length_le (Nat.le_of_eq hn)] at S
    apply codeAny_builtin PyProof.Rows.F.entry_set_update_loop
    rw [Around.under_plainId PyProof.Rows.F.plain_set_update_loop]
    show wpAny _ A.in1 (pyNext (.ref I) >>= _) _ _ s
    apply wpAny_bind
    refine W.done s _ _ st fun s' mv => ?_
    show wpAny _ A.in1 (ret Value.none) _ _ s'
    exact wpAny_pure (q s' (mv.mono more) (S.keep fun o z => mv.heap a o awr z))
  | succ m ih =>
    intro i s e st S q
    have lt : i < n := by omega
    apply codeAny_builtin PyProof.Rows.F.entry_set_update_loop
    rw [Around.under_plainId PyProof.Rows.F.plain_set_update_loop]
    show wpAny _ A.in1 (pyNext (.ref I) >>= _) _ _ s
    apply wpAny_bind
    refine W.item i s _ _ lt st fun v s' hv st' mv => ?_
    obtain ⟨t, rfl⟩ := hval i v hv
    have S' := S.keep (h' := s'.heap) fun o z => mv.heap a o awr z
    have roomy : (memW (xs.take i)).length + 1 < scanBound := by
      have h1 := memW_len (xs.take i)
      rw [List.length_take] at h1
      omega
    have grows : memW (xs.take (i + 1)) = addW (memW (xs.take i)) (xs.getD i Str.empty) := by
      have hi : i < xs.length := by omega
      rw [← memW_snoc, List.take_succ, List.getD_eq_getElem?_getD, List.getElem?_eq_getElem hi]
      rfl
    show wpAny _ A.in1 (holding [Value.str (xs.getD i Str.empty) t] (setAdd a (.str (xs.getD i Str.empty) t)) >>= _) _ _ s'
    apply wpAny_bind
    apply wpAny_holding
    unfold setAdd
    apply wpAny_holding
    apply wpAny_bind
    apply (PySem.strKind P w).pyHash (Froz.is_str (xs.getD i Str.empty) t)
    refine setT_add (s := { s' with toks := s'.toks + 1 }) S' roomy fun h' sb S2 b => ?_
    rw [← grows] at S2
    refine wpAny_pure ⟨plainId_quiet PyProof.Rows.F.plain_set_update_loop _, ih (i + 1) _ (by omega) ?_ S2 fun s2 mv2 S3 => q s2 (Moved.trans W.gtrans ((mv.mono more).then_heap (Nat.le_succ _) fun c o hc z => ?_) mv2) S3⟩
    · refine W.frame _ s' _ _ st' (Nat.le_succ _) fun c hc o z => ?_
      rw [sb.2 c (fun y => hfp (y ▸ hc))]
      exact z
    · rw [sb.2 c (fun y => hc (y ▸ .head _))]
      exact z
end
end Gd

namespace Gd
open PySem PySem.Spec PyProof.Rows L2
/-- the set before its first text -/
def bare (w : World) : Obj := { cls := .type "set", dict := none, data := .set #[] 0 (.fresh 0 0 (!byText w)) }
section
variable {P : Program} {w : World} {A : Around} {E : Value → Shared → Prop} {s : Shared}
theorem bare_T {h : Heap} {a : Addr} (e : h.get? a = some (bare w)) : SetT P w h a [] := by
  refine ⟨(#[], 0, .fresh 0 0 (!byText w)), e, Froz.TxOk.nil rfl, List.nodup_nil, List.Pairwise.nil, ?_⟩
  show byText w = true ∨ (!byText w) = true
  cases byText w
  · exact .inr rfl
  · exact .inl rfl
theorem made_T (v : Value) {Q : Value → Shared → Prop} (h : Q (.ref s.heap.objs.size) { s with heap := s.heap.push (bare w) }) :
    codeAny (model P w) A (.call (.builtin "set.__new__") ⟨[.type "set", v], []⟩) (wants Q E) s := by
  apply codeAny_of_tree
  show wpAny _ A.in1 (do checkBuiltinCall "set.__new__" ⟨[.type "set", v], []⟩; again (.builtin "set.__new__" ⟨[.type "set", v], []⟩)) _ _ s
  apply wpAny_bind
  refine wpAny_of_eq (PySem.F.newCall_set_1 v) (wpAny_pure ⟨plainId_quiet PySem.F.plain_set_new _, codeAny_builtin PySem.F.entry_set_new ?_⟩)
  rw [Around.under_plainId PySem.F.plain_set_new]
  unfold Builtin.«set.__new__»
  unfold Builtin.Frozenset.newClass
  have self := sub_set_self
  cases s with
  | mk hp g d tk os =>
    dsimp only
    wp_walk
    apply wpAny_askSetting
    apply wpAny_pure
    dsimp only
    simp only [newObj]
    apply wpAny_bind
    exact wpAny_alloc (wpAny_pure (wpAny_pure h))
/-- set(xs), xs a list of texts -/
theorem set_T {b : Addr} {items : Array Value} {xs : List Str} {Q : Value → Shared → Prop} (hd : A.handled = none) (hl : s.heap.IsList b items) (hx : StrsAre items.toList xs) (hb : xs.length + 1 < scanBound)
    (h : ∀ (h' : Heap) (tk : Nat), SetT P w h' s.heap.objs.size (memW xs) → (∀ c o, s.heap.get? c = some o → h'.get? c = some o) → Q (.ref s.heap.objs.size) { s with heap := h', toks := tk }) :
    wpAny (model P w) A (call (.type "set") [.ref b]) Q E s := by
  obtain ⟨c0, c1, c2⟩ := PySem.F.called_set.mro
  have c3 := PySem.F.called_set.made
  have c4 := PySem.F.called_set.sub
  have c5 := PySem.F.called_set.notType
  have c6 := PySem.F.called_set.canCreate
  have c7 := PySem.F.typeCall_set_1 (.ref b)
  apply wpAny_call
  apply codeAny_of_tree
  show wpAny _ _ (callAny (.type "set") _) _ _ _
  refine wpAny_pure ⟨Code.quiet_builtin _ (by decide +kernel), ?_⟩
  apply codeAny_builtin PySem.F.entry_type_call
  rw [Around.under_plain (weight_type_call_type "set" [.ref b] []) rfl]
  repeat (any_goals (first | assumption | wp_step))
  refine codeAny_mono (made_T (.ref b) (E := E) (Q := fun v s1 => v = .ref s.heap.objs.size ∧ s1 = { s with heap := s.heap.push (bare w) }) ⟨rfl, rfl⟩) fun r s1 hr => ?_
  rcases r with e | fl
  · exact hr
  rcases fl with _ | v | _ | _
  case ret =>
    obtain ⟨rfl, rfl⟩ := hr
    have born : (s.heap.push (bare w)).get? s.heap.objs.size = some (bare w) := Heap.get?_push_size _ rfl
    have kind : Shared.TypeIs { s with heap := s.heap.push (bare w) } (.ref s.heap.objs.size) "set" := ⟨_, born, rfl⟩
    have c8 := PySem.F.called_set.init.lookup
    have c9 := PySem.F.called_set.init.bind (.ref s.heap.objs.size)
    repeat (any_goals (first | assumption | wp_step))
    refine codeAny_mono (codeAny_call_builtin (R := wants (fun r s2 => r = .none ∧ ∃ h' tk, s2 = { s with heap := h', toks := tk } ∧ SetT P w h' s.heap.objs.size (memW xs) ∧ ∀ c o, s.heap.get? c = some o → h'.get? c = some o) E)
      PySem.F.called_set.init.plain PySem.F.entry_set_init (check_set_init_1 kind ?_)) fun r2 s2 hr2 => ?_
    · obtain ⟨⟨k0, k1, k2, k3⟩, hol, k4, nl, k5⟩ := hl
      simp only at k4 k5
      subst k4 k5
      have e1 := PySem.F.sub_list_set
      have e2 := PySem.F.sub_list_frozenset
      have e3 : (Value.type "list" == Value.type "dict") = false := by decide
      have there : (s.heap.push (bare w)).get? b = some { cls := .type "list", dict := k1, data := .seq items nl, slots := k3 } := Heap.get?_push_of_some _ hol
      have lst : (s.heap.push (bare w)).IsList b items := ⟨_, there, rfl, nl, rfl⟩
      unfold Builtin.«set.__init__» noKeywords Builtin.Frozenset.updateFrom
      generalize hold : pyIter = held
      wp_walk
      subst hold
      apply wpAny_pyIter_list lst
      apply wpAny_bind
      apply wpAny_runValue
      have bs : b < s.heap.objs.size := Heap.lt_size hol
      have free : A.in1.in1.in1.handled = none := by simp [hd]
      have size1 : (s.heap.push (bare w)).objs.size = s.heap.objs.size + 1 := Heap.size_push _ _
      have bI : b ≠ (s.heap.push (bare w)).objs.size := by rw [size1]; exact Nat.ne_of_lt (Nat.lt_succ_of_lt bs)
      have alone : s.heap.objs.size ∉ [(s.heap.push (bare w)).objs.size, b] := by
        rw [size1]
        intro z
        rcases List.mem_cons.mp z with y | y
        · exact Nat.ne_of_lt (Nat.lt_succ_self _) y
        · exact Nat.ne_of_gt bs (List.mem_singleton.mp y)
      have len : xs.length = items.size := by rw [← StrsAre.len_eq hx, Array.length_toList]
      refine loopT ((Walks.list free _ b bI items).toS) alone xs len (fun i v hv => SS.strs_at hx i v (by rw [Array.getElem?_toList]; exact hv)) (by omega) items.size 0 _ (by omega) ⟨⟨_, Heap.get?_push_size _ rfl, rfl, rfl⟩, lst.push _⟩ (bare_T (Heap.get?_push_of_some _ born)) fun s' mv S => ?_
      have m1 := mv.gens
      have m2 := mv.drawn
      have m3 := mv.os
      have m4 := mv.heap
      cases s' with
      | mk h' g' d' tk' os' =>
        have m1 : g' = s.gens := m1
        have m2 : d' = s.drawn := m2
        have m3 : os' = s.os := m3
        subst m1 m2 m3
        apply wpAny_pure
        show wpAny _ _ (ret Value.none) _ _ _
        refine wpAny_pure ⟨rfl, h', tk', rfl, S, fun c o z => ?_⟩
        have cs : c < s.heap.objs.size := Heap.lt_size z
        refine m4 c o (fun y => ?_) (Heap.get?_push_of_some _ (Heap.get?_push_of_some _ z))
        rcases List.mem_cons.mp y with y | y
        · exact Nat.ne_of_lt cs y
        · have y := List.mem_singleton.mp y
          rw [size1] at y
          exact Nat.ne_of_lt (Nat.lt_succ_of_lt cs) y
    · rcases r2 with e | fl
      · exact hr2
      rcases fl with _ | v | _ | _
      case ret =>
        obtain ⟨rfl, h', tk, rfl, S, k⟩ := hr2
        repeat (any_goals (first | assumption | wp_step))
        exact h h' tk S k
      all_goals exact hr2.elim
  all_goals exact hr.elim
end
end Gd

namespace Gd
open PySem PySem.Spec PyProof.Rows L2
/-- a list of texts that strictly rises -/
def upW (ys : List Str) : Prop := sortedS ys = true ∧ ys.Nodup
section
variable {P : Program} {w : World} {A : Around} {E : Value → Shared → Prop} {s : Shared} {a : Addr} {l : List Str}
theorem txt_entry {D : Froz.SD} (F : Froz.TxOk P w D l) {e : Int × Value} (he : e ∈ D.1.toList) : ∃ x t, e.2 = .str x t ∧ x ∈ l := by
  obtain ⟨⟨x, h1, _⟩, _⟩ := F.el e he
  obtain ⟨t, ht⟩ := Value.isStrOf_shape (x := x) (v := e.2) h1
  exact ⟨x, t, ht, (F.mem x).mpr ⟨e, he, h1⟩⟩
theorem nodup_of_len : ∀ {l m : List Str}, l.Nodup → (∀ x ∈ l, x ∈ m) → m.length ≤ l.length → l.Perm m
  | [], m, _, _, h => by
    have : m = [] := List.eq_nil_of_length_eq_zero (Nat.le_zero.mp h)
    rw [this]
  | x :: l, m, nd, sub, h => by
    obtain ⟨n1, n2⟩ := List.nodup_cons.mp nd
    have hx := sub x (.head _)
    have p := List.perm_cons_erase hx
    refine List.Perm.trans (.cons x (nodup_of_len (m := m.erase x) n2 (fun y hy => ?_) ?_)) p.symm
    · have ne : y ≠ x := fun z => n1 (by rw [← z]; exact hy)
      exact (List.mem_erase_of_ne ne).mpr (sub y (.tail _ hy))
    · have := p.length_eq
      rw [List.length_cons] at this h
      omega
/-- the texts of the entries are the members -/
theorem txt_perm {D : Froz.SD} (F : Froz.TxOk P w D l) (nd : l.Nodup) : l.Perm ((D.1.toList.map (·.2)).map strOf) := by
  refine nodup_of_len nd (fun x hx => ?_) ?_
  · obtain ⟨e, he, q⟩ := (F.mem x).mp hx
    obtain ⟨t, ht⟩ := Value.isStrOf_shape (x := x) (v := e.2) q
    refine List.mem_map.mpr ⟨e.2, List.mem_map.mpr ⟨e, he, rfl⟩, ?_⟩
    rw [ht]
    rfl
  · rw [List.length_map, List.length_map, Array.length_toList, F.sz]
    exact Nat.le_refl _
theorem sorted_T {Q : Value → Shared → Prop} (S : SetT P w s.heap a l) (hd : A.handled = none) (h64 : l.length < 64)
    (h : ∀ s' p (out : Array Value) (c : Nat) (ys : List Str), (∀ b o, s.heap.get? b = some o → s'.heap.get? b = some o) → s'.gens = s.gens → s'.os = s.os → s.heap.objs.size ≤ p →
      s'.heap.get? p = some (seqObj "list" out c) → StrsAre out.toList ys → ys.Perm l → sortedS ys = true → Q (.ref p) s') :
    wpAny (model P w) A (call (.builtin "sorted") [.ref a]) Q E s := by
  obtain ⟨⟨es, ep, t⟩, d1, F, nd, d4, d5⟩ := S
  have fit : t.fits es.size = true := F.fit
  have size : es.size = l.length := F.sz
  apply Calls.call_function_entry kind_sorted plain_sorted entry_sorted (args_sorted1 _)
  unfold Builtin.«sorted»
  apply wpAny_bind (m := checkCount "sorted" 1 1 _)
  apply wpAny_pure
  apply wpAny_bind
  refine collect_set (A := A.in1) hd ⟨_, d1, rfl, rfl⟩ fit (by show es.size < scanBound; unfold scanBound; omega) d4 d5 fun s1 vs k1 z1 g1 o1 pm => ?_
  have vlen : vs.length = l.length := by rw [pm.length_eq, List.length_map, Array.length_toList, size]
  have txts : StrsAre vs (vs.map strOf) := strsAre_map vs fun v hv => by
    obtain ⟨e, he, q⟩ := List.mem_map.mp (pm.mem_iff.mp hv)
    obtain ⟨x, u, hu, _⟩ := txt_entry F he
    exact ⟨x, u, by rw [← q]; exact hu⟩
  have perm : (vs.map strOf).Perm l := (pm.map strOf).trans (txt_perm F nd).symm
  apply wpAny_bind
  refine wpAny_newList ?_ (by rw [vlen, sizeLine_eq]; omega)
  have born : (s1.heap.push (seqObj "list" vs.toArray 0)).get? s1.heap.objs.size = some (seqObj "list" vs.toArray 0) := Heap.get?_push_size _ rfl
  apply wpAny_bind
  apply wpAny_holding
  refine wpAny_call_entry slot_list_sort ⟨_, born, rfl⟩ entry_list_sort (list_sort_treeK strKind_oneLt born txts.keysOf (fun v1 v2 r e => keyKind_strs (by rw [← e]; exact txts)) (by rw [vlen]; exact h64) fun st a1 a2 => ?_) (args_list_sort _)
  obtain ⟨ys, b1, b2, b3⟩ := sorted_out_str txts a1 a2
  obtain ⟨c, hc⟩ := sortedHeap_at (vs := vs) (out := (arrOf st).map (·.2)) born
  refine ⟨_, rfl, wpAny_pure ⟨_, rfl, h _ s1.heap.objs.size _ c ys (fun b u e => ?_) g1 o1 z1 hc b1 (b2.trans perm) b3⟩⟩
  have old := k1 b u e
  have lt := Heap.lt_size old
  show (sortedHeap (s1.heap.push (seqObj "list" vs.toArray 0)) s1.heap.objs.size vs _).get? b = some u
  rw [sortedHeap_old (Nat.ne_of_lt lt) (by rw [size_push']; exact Nat.lt_succ_of_lt lt)]
  exact Heap.get?_push_of_some _ old
end
/-! ### the rules -/
/-- a set of texts in the heap -/
def SetW (P : Program) (w : World) (a : Addr) (l : List Str) : HO := .ext fun h => SetT P w h a l
section
variable {X : Cx}
theorem setW_ok {P : Program} {w : World} {H : Hp} {h : Heap} {a : Addr} {l : List Str} (S : SetT P w h a l) : ObjOk P w H h a (SetW P w a l) := by
  obtain ⟨D, d1, _⟩ := id S
  exact ⟨S, ⟨_, d1⟩, fun _ _ z k => SetT.keep z k⟩
/-- set(a list of texts) -/
def rSetW (P : Program) (w : World) (K : PySem.W.Frag) : List V → Hp → VK → Prop := fun vs H Q => ∃ (b : Addr) (xs : List Str), vs = [V.ref b] ∧ SqL K H b (xs.map V.str) ∧ xs.length + 1 < 4096 ∧ ∀ p, H p = none → Q (.ref p) (upd H p (SetW P w p (memW xs)))
theorem cr_setW (hc : X.calm = true) : CallR X (.type "set") (rSetW X.prog X.w X.K) := by
  intro pins s σ H vs us Q I r h
  obtain ⟨b, xs, rfl, hs, hl, q⟩ := h
  obtain ⟨its, rv, p, _⟩ := I.list hs
  rw [Vals.ref1 r]
  refine set_T (I.ok.hd hc) p.isList rv.strs (by unfold scanBound; omega) fun h' tk S k => ?_
  exact ⟨.ref s.heap.objs.size, upd H s.heap.objs.size (SetW X.prog X.w s.heap.objs.size (memW xs)), I.laid (t' := tk) (fun c o e => k c o e) (Nat.le_refl _) (setW_ok S), rfl, q _ (I.hok.fresh (Nat.le_refl _))⟩
/-- sorted(a set of texts) -/
def rSortW (P : Program) (w : World) : List V → Hp → VK → Prop := fun vs H Q => ∃ (a : Addr) (l : List Str), vs = [V.ref a] ∧ H a = some (SetW P w a l) ∧ l.length < 64 ∧
  ∀ (ys : List Str) (p : Addr), ys.Perm l → sortedS ys = true → H p = none → Q (.ref p) (upd H p (.lst (ys.map V.str)))
theorem cr_sortW (hc : X.calm = true) : CallR X (.builtin "sorted") (rSortW X.prog X.w) := by
  intro pins s σ H vs us Q I r h
  obtain ⟨a, l, rfl, ha, h64, q⟩ := h
  have S : SetT X.prog X.w s.heap a l := (I.hok a _ ha).1
  rw [Vals.ref1 r]
  refine sorted_T S (I.ok.hd hc) h64 fun s' p out c ys k g o hp hg hy hperm hsort => ?_
  have few : (ys.map V.str).length ≤ sizeLine := by rw [List.length_map, hperm.length_eq, sizeLine_eq]; omega
  have hn : H p = none := I.hok.fresh hp
  exact ⟨.ref p, upd H p (.lst (ys.map V.str)), I.call' (ch := []) o (Un.laid k hp hn) (I.hok.laid k hp ⟨few, out.toList, c, vals_of_strs hy, hg⟩) (by rw [g]; exact I.bare) (fun _ z => nomatch z), rfl, q ys p hperm hsort hn⟩
end
end Gd

set_option maxHeartbeats 1000000
namespace KT
open PySem L2 Gd KM
theorem no_fn {P : Program} {w : World} {K : PySem.W.Frag} {mg : Str → Option Value} {base : Heap} {CX : CXT} {k : Nat} {f : Addr} {fd : FuncData} {ps : List Str} {sp : Sp} (h : ∀ vs H Q E, ¬ sp vs H Q E) : FnG P w K mg base CX k f fd ps sp :=
  ⟨fun vs H Q E z => absurd z (h vs H Q E), fun A outer s H args us vs Q E hc hr e0 hb r z => absurd z (h vs H Q E)⟩
def spZ : Sp := fun _ _ _ _ => False
def spIsTreeB (K : PySem.W.Frag) : Sp := fun vs H Q _ => ∃ (v : V) (d : PyData) (b : Bool) (n : Nat), vs = [v] ∧ Db K H v d ∧ TB n d 0 20 b ∧ n < 128 ∧ ∀ H', Same H H' → Q (.bl b) H'
def spReqB (K : PySem.W.Frag) (C : Addr) : Sp := fun vs H Q E => ∃ (v : V) (d : PyData) (b : Bool) (n : Nat), vs = [v] ∧ Db K H v d ∧ TB n d 0 20 b ∧ n < 128 ∧ (b = true → ∀ H', Same H H' → Q .non H') ∧ (b = false → ∀ e H', Same H H' → H' e = none → E (.ref C) (some e) (upd H' e (.xd [("value", v)])))
/-- asked of a value that is no tree -/
def spNoB (K : PySem.W.Frag) (C : Addr) : Sp := fun vs H _ E => ∃ (v : V) (d : PyData) (n : Nat), vs = [v] ∧ Db K H v d ∧ TB n d 0 20 false ∧ n < 128 ∧ ∀ e H', Same H H' → H' e = none → E (.ref C) (some e) (upd H' e (.xd [("value", v)]))
def spNoW (K : PySem.W.Frag) (C : Addr) : Sp := fun vs H _ E => ∃ (v z : V) (d : PyData) (n : Nat), vs = [v, z] ∧ Db K H v d ∧ TB n d 0 20 false ∧ n < 128 ∧ ∀ e H', Same H H' → H' e = none → E (.ref C) (some e) (upd H' e (.xd [("value", v)]))
section
variable {P : Program} {w : World} {K : PySem.W.Frag} {mg : Str → Option Value} {base : Heap} {aS aL C_T f_T C_X f_X : Addr} {es : Array DictEntry} {n : Nat}
theorem all_tb {f13 f14 f0 f2 f10 f11 f3 : Addr} {fd13 fd14 fd0 fd2 fd10 fd11 fd3 : FuncData} (F13 : Fun K "is_tree_at" "is_tree_at" sis_tree_at f13 fd13) (F14 : Fun K "are_trees_at" "are_trees_at" sare_trees_at f14 fd14) (T : Txt w K mg base aS aL es n)
    (D0 : Df P w K mg base CX0 1 "is_letter" f0 fd0 ["value"] (spAsk isLet)) (D2 : Df P w K mg base CX0 2 "is_name" f2 fd2 ["value"] (spAsk isNam)) (D10 : Df P w K mg base CX0 1 "needs_parentheses" f10 fd10 ["kind", "place"] spNeedsS) (D11 : Df P w K mg base CX0 1 "place_inside" f11 fd11 ["kind"] spPlaceS) (D3 : Df P w K mg base CX0 1 "is_list" f3 fd3 ["value"] (spIsListD K))
    (d13 : ∀ sp k, FnG P w K mg base CX0 k f13 fd13 ["value", "place", "room"] sp → Df P w K mg base CX0 k "is_tree_at" f13 fd13 ["value", "place", "room"] sp) (d14 : ∀ sp k, FnG P w K mg base CX0 k f14 fd14 ["value", "place", "room"] sp → Df P w K mg base CX0 k "are_trees_at" f14 fd14 ["value", "place", "room"] sp) :
    ∀ m, FnG P w K mg base CX0 (2 + m) f13 fd13 ["value", "place", "room"] (spTB K m) ∧ FnG P w K mg base CX0 (2 + m) f14 fd14 ["value", "place", "room"] (spTV K m)
  | 0 => ⟨no_fn fun vs H Q E ⟨_, _, _, _, _, _, _, _, _, h, _⟩ => absurd h (Nat.not_lt_zero _), no_fn fun vs H Q E ⟨_, _, _, _, _, _, _, _, _, h, _⟩ => absurd h (Nat.not_lt_zero _)⟩
  | m + 1 => by
    obtain ⟨A, B⟩ := all_tb F13 F14 T D0 D2 D10 D11 D3 d13 d14 m
    exact ⟨ok_treeat F13 T D0 D2 D10 D11 (d14 _ _ B) (d13 _ _ A), ok_aretrees F14 T D3 (d13 _ _ A)⟩
abbrev sis_tree : Stmt := top 32
theorem scis_tree : FnScope ["value"] ["value"] (defScope sis_tree) := ⟨rfl, rfl, rfl, by decide +kernel, rfl, by decide +kernel, by decide +kernel⟩
theorem ok_istree {f f1 : Addr} {fd fd1 : FuncData} (F : Fun K "is_tree" "is_tree" sis_tree f fd) (T : Txt w K mg base aS aL es n)
    (D_is_tree_at : Df P w K mg base CX0 130 "is_tree_at" f1 fd1 ["value", "place", "room"] (spTB K 128)) : FnG P w K mg base CX0 131 f fd ["value"] (spIsTreeB K) := by
  refine okG F scis_tree (fun vs H Q E h => ?_) (fun cdv A outer s H vs Q E hc hr h => ?_)
  · obtain ⟨v, d, b, n, rfl, _⟩ := h
    rfl
  obtain ⟨v, d, b, n, rfl, hd, tb, hn, q⟩ := h
  refine ⟨_, (pss_one (ps_ret (pe_d D_is_tree_at hc (hr.mono (by omega)) (by rfl) (fun _ => passN) (pa_cons (pv 0) (pa_cons (pe_k (by rfl) T.g_WHOLE) (pa_cons (pe_k (by rfl) T.g_MOST_OPEN) pa_nil)))))), ?_⟩
  exact ⟨_, rfl, v, d, 0, 20, b, n, rfl, hd, tb, hn, q⟩
abbrev srequire_tree : Stmt := top 35
theorem screquire_tree : FnScope ["value"] ["value"] (defScope srequire_tree) := ⟨rfl, rfl, rfl, by decide +kernel, rfl, by decide +kernel, by decide +kernel⟩
theorem ok_require {f f1 : Addr} {fd fd1 : FuncData} (F : Fun K "require_tree" "require_tree" srequire_tree f fd) (TE : PySem.EzValue.LowTxt K mg "InvalidTree" "InvalidTree.__init__" C_T f_T)
    (D_is_tree : Df P w K mg base CX0 131 "is_tree" f1 fd1 ["value"] (spIsTreeB K)) : FnG P w K mg base (L2.CX P w) 132 f fd ["value"] (spReqB K C_T) := by
  refine okG F screquire_tree (fun vs H Q E h => ?_) (fun cdv A outer s H vs Q E hc hr h => ?_)
  · obtain ⟨v, d, b, n, rfl, _⟩ := h
    rfl
  obtain ⟨v, d, b, n, rfl, hd, tb, hn, q1, q2⟩ := h
  refine ⟨_, (pss_one (ps_if (pt_not (pt_val (pe_d D_is_tree hc (hr.mono (by omega)) (by rfl) (fun _ => passN) (pa_cons (pv 0) pa_nil))))
  (pss_one (ps_raise_value rfl TE hr (takes_of rfl rfl rfl rfl) (pa_cons (pv 0) pa_nil))) pss_nil)), ?_⟩
  refine ⟨_, rfl, v, d, b, n, rfl, hd, tb, hn, fun H1 s1 => ⟨_, rfl, ?_⟩⟩
  cases b with
  | true => exact iteF (q1 rfl _ s1)
  | false => exact iteT ⟨_, rfl, v, rfl, fun e he => q2 rfl e H1 s1 he⟩
abbrev sexpression_text : Stmt := top 36
theorem scexpression_text : FnScope ["tree"] ["tree"] (defScope sexpression_text) := ⟨rfl, rfl, rfl, by decide +kernel, rfl, by decide +kernel, by decide +kernel⟩
theorem ok_textN {f f1 f2 : Addr} {fd fd1 fd2 : FuncData} {sp2 : Sp} (F : Fun K "expression_text" "expression_text" sexpression_text f fd) (T : Txt w K mg base aS aL es n)
    (D_require_tree : Df P w K mg base (L2.CX P w) 132 "require_tree" f1 fd1 ["value"] (spReqB K C_T)) (D_written_at : Df P w K mg base CX0 1 "written_at" f2 fd2 ["tree", "place"] spZ) : FnG P w K mg base (L2.CX P w) 133 f fd ["tree"] (spNoB K C_T) := by
  refine okG F scexpression_text (fun vs H Q E h => ?_) (fun cdv A outer s H vs Q E hc hr h => ?_)
  · obtain ⟨v, d, n, rfl, _⟩ := h
    rfl
  obtain ⟨v, d, n, rfl, hd, tb, hn, q⟩ := h
  refine ⟨_, (pss_cons (ps_expr (pe_d D_require_tree hc (hr.mono (by omega)) (by rfl) (fun σ => passAt (takes_of rfl rfl rfl rfl) σ) (pa_cons (pv 0) pa_nil)))
 (pss_one (ps_ret (pe_d D_written_at hc (hr.mono (by omega)) (by rfl) (fun _ => passN) (pa_cons (pv 0) (pa_cons (pe_k (by rfl) T.g_WHOLE) pa_nil)))))), ?_⟩
  exact ⟨_, rfl, v, d, false, n, rfl, hd, tb, hn, (fun z => nomatch z), fun _ => q⟩
abbrev sletters_of : Stmt := top 39
theorem scletters_of : FnScope ["tree"] ["tree"] (defScope sletters_of) := ⟨rfl, rfl, rfl, by decide +kernel, rfl, by decide +kernel, by decide +kernel⟩
theorem ok_lettersN {f f1 f2 : Addr} {fd fd1 fd2 : FuncData} (F : Fun K "letters_of" "letters_of" sletters_of f fd) (T : Txt w K mg base aS aL es n) (zs : mg "set" = none) (zt : mg "sorted" = none)
    (D_require_tree : Df P w K mg base (L2.CX P w) 132 "require_tree" f1 fd1 ["value"] (spReqB K C_T)) (D_words_of : Df P w K mg base CX0 1 "words_of" f2 fd2 ["tree", "kind"] spWords) : FnG P w K mg base (L2.CX P w) 133 f fd ["tree"] (spNoB K C_T) := by
  refine okG F scletters_of (fun vs H Q E h => ?_) (fun cdv A outer s H vs Q E hc hr h => ?_)
  · obtain ⟨v, d, n, rfl, _⟩ := h
    rfl
  obtain ⟨v, d, n, rfl, hd, tb, hn, q⟩ := h
  refine ⟨_, (pss_cons (ps_expr (pe_d D_require_tree hc (hr.mono (by omega)) (by rfl) (fun σ => passAt (takes_of rfl rfl rfl rfl) σ) (pa_cons (pv 0) pa_nil)))
 (pss_one (ps_ret (pe_callB (cr_sortW rfl) (by rfl) zt (by decide +kernel) (pa_cons (pe_callTy (cr_setW rfl) (by rfl) zs (by decide +kernel) (pa_cons (pe_d D_words_of hc (hr.mono (by omega)) (by rfl) (fun _ => passN) (pa_cons (pv 0) (pa_cons pe_str pa_nil))) pa_nil)) pa_nil))))), ?_⟩
  exact ⟨_, rfl, v, d, false, n, rfl, hd, tb, hn, (fun z => nomatch z), fun _ => q⟩
abbrev snames_of : Stmt := top 40
theorem scnames_of : FnScope ["tree"] ["tree"] (defScope snames_of) := ⟨rfl, rfl, rfl, by decide +kernel, rfl, by decide +kernel, by decide +kernel⟩
theorem ok_namesN {f f1 f2 : Addr} {fd fd1 fd2 : FuncData} (F : Fun K "names_of" "names_of" snames_of f fd) (T : Txt w K mg base aS aL es n) (zs : mg "set" = none) (zt : mg "sorted" = none)
    (D_require_tree : Df P w K mg base (L2.CX P w) 132 "require_tree" f1 fd1 ["value"] (spReqB K C_T)) (D_words_of : Df P w K mg base CX0 1 "words_of" f2 fd2 ["tree", "kind"] spWords) : FnG P w K mg base (L2.CX P w) 133 f fd ["tree"] (spNoB K C_T) := by
  refine okG F scnames_of (fun vs H Q E h => ?_) (fun cdv A outer s H vs Q E hc hr h => ?_)
  · obtain ⟨v, d, n, rfl, _⟩ := h
    rfl
  obtain ⟨v, d, n, rfl, hd, tb, hn, q⟩ := h
  refine ⟨_, (pss_cons (ps_expr (pe_d D_require_tree hc (hr.mono (by omega)) (by rfl) (fun σ => passAt (takes_of rfl rfl rfl rfl) σ) (pa_cons (pv 0) pa_nil)))
 (pss_one (ps_ret (pe_callB (cr_sortW rfl) (by rfl) zt (by decide +kernel) (pa_cons (pe_callTy (cr_setW rfl) (by rfl) zs (by decide +kernel) (pa_cons (pe_d D_words_of hc (hr.mono (by omega)) (by rfl) (fun _ => passN) (pa_cons (pv 0) (pa_cons pe_str pa_nil))) pa_nil)) pa_nil))))), ?_⟩
  exact ⟨_, rfl, v, d, false, n, rfl, hd, tb, hn, (fun z => nomatch z), fun _ => q⟩
end
end KT

set_option maxHeartbeats 4000000
namespace Gd
open PySem PySem.Spec PyProof.Rows L2
/-! ### classes of the text: their methods, their making, isinstance -/
/-- a method as its callers see it -/
structure Dm (P : Program) (w : World) (K : PySem.W.Frag) (mg : Str → Option Value) (base : Heap) (CX : CXT) (k : Nat) (C : Addr) (m : Str) (f : Addr) (fd : FuncData) (ps : List Str) (sp : Sp) : Prop where
  G : FnG P w K mg base CX k f fd ps sp
  c : Cls K C
  me : Meth K C m f
  b : Binds K fd ps []
/-- a class as its callers see it: n values and the keywords ks -/
structure Dn (P : Program) (w : World) (K : PySem.W.Frag) (mg : Str → Option Value) (base : Heap) (CX : CXT) (k : Nat) (x : Str) (C f : Addr) (fd : FuncData) (ps : List Str) (sp : Sp) (n : Nat) (ks : List Str) (gV : List V → List V → List V) : Prop where
  G : FnG P w K mg base CX k f fd ps sp
  mak : Mk K C f
  m : mg x = some (.ref C)
  b : ∃ g, KBn K fd ps (n + 1) ks g gV
def tMethG (C : Addr) (m : Str) (sp : Sp) (E : L2.St → XK) (ta : TE) (t : TA) : TE := fun σ H Q => ta σ H fun x H1 => ∃ a dx fs, x = .ref a ∧ H1 a = some (.ins C dx fs) ∧ fs.lookup m = none ∧ t σ H1 fun vs H2 => sp (x :: vs) H2 Q (E σ)
def tMakeG (C : Addr) (n m : Nat) (sp : Sp) (gV : List V → List V → List V) (E : L2.St → XK) (t tk : TA) : TE := fun σ H Q => t σ H fun vs H1 => tk σ H1 fun zs H2 => vs.length = n ∧ zs.length = m ∧
  ∀ x dx, H2 x = none → H2 dx = none → dx ≠ x → sp (gV (.ref x :: vs) zs) (upd (upd H2 dx (.own x)) x (.ins C dx [])) (fun v H3 => v = .non ∧ Q (.ref x) H3) (E σ)
section
variable {X : Cx} {CX : CXT} {k n : Nat} {f C : Addr} {fd : FuncData} {ps ks : List Str} {sp : Sp} {E : L2.St → XK} {x m : Str} {p pos apos : Pos} {e o : Expr} {es : List Expr} {ta : TE} {t tk : TA} {kws : List Keyword} {gV : List V → List V → List V}
/-- o.m(e, ..) -/
theorem pe_mt {pl : Sem Bool} (D : Dm X.prog X.w X.K X.mg X.base CX k C m f fd ps sp) (hc : Clean X.A) (hr : Room k X.A) (hx : ∀ σ, PassesAt CX X σ (E σ)) (he : PE X o ta) (ha : PA X (e :: es) t)
    (hst : starEach (e :: es) X.env = (false, eval e X.env) :: starEach es X.env := by rfl) (hpl : (backTo pos (starEach es X.env)).any (·.1) = false := by rfl)
    (ht : eval (.Call (.Attribute o m apos) (e :: es) [] pos) X.env = (do
      let ov ← eval o X.env
      standAt apos.atName
      let (f, first) ← holding [ov] (getMethod ov m pl)
      callWith pos f first (backTo pos (starEach (e :: es) X.env)) (backToKw pos (keywordEach [] X.env))) := by rfl) :
    PE X (.Call (.Attribute o m apos) (e :: es) [] pos) (tMethG C m sp E ta t) := by
  refine ⟨fun pins s σ H Q I h => PySem.W.methodCall_KW (pl := pl) (thn (he.run pins s σ H _ I h) ?_) ht⟩
  rintro u s1 ⟨_, H1, I1, rx, a, dx, fs, rfl, ea, l, q⟩
  cases (show u = Value.ref a from rx)
  refine getmeth_ok I1 ea D.c D.me l (PySem.W.callWith_K (first := [.ref a]) (h₀ := X.base) I1.ok.mod.kin D.me.kp (thn (ha.run pos pins s1 σ H1 _ I1 q) ?_) hst hpl)
  rintro us s2 ⟨vs, H2, I2, r, q2⟩
  refine ⟨I2.kIn, ?_⟩
  have q3 : sp ((.ref a :: vs) ++ []) H2 Q (E σ) := by rw [List.append_nil]; exact q2
  exact runC (us := .ref a :: us) (vs := .ref a :: vs) D.G hc hr D.b .nil (hx σ) I2 (.cons rfl r) q3
/-- o.m() -/
theorem pe_mt0 {pl : Sem Bool} (D : Dm X.prog X.w X.K X.mg X.base CX k C m f fd ps sp) (hc : Clean X.A) (hr : Room k X.A) (hx : ∀ σ, PassesAt CX X σ (E σ)) (he : PE X o ta)
    (ht : eval (.Call (.Attribute o m apos) [] [] pos) X.env = (do
      let ov ← eval o X.env
      standAt apos.atName
      let (f, first) ← holding [ov] (getMethod ov m pl)
      callWith pos f first (backTo pos (starEach [] X.env)) (backToKw pos (keywordEach [] X.env))) := by rfl) :
    PE X (.Call (.Attribute o m apos) [] [] pos) (tMethG C m sp E ta tNil) := by
  refine ⟨fun pins s σ H Q I h => PySem.W.methodCall_KW (pl := pl) (thn (he.run pins s σ H _ I h) ?_) ht⟩
  rintro u s1 ⟨_, H1, I1, rx, a, dx, fs, rfl, ea, l, q⟩
  cases (show u = Value.ref a from rx)
  refine getmeth_ok I1 ea D.c D.me l (PySem.W.callWith_K0 (first := [.ref a]) I1.kIn D.me.kp ?_)
  exact runC (us := [.ref a]) (vs := [.ref a]) D.G hc hr D.b .nil (hx σ) I1 (.cons rfl .nil) q
theorem run_new {g : List Value → List Value → List Value} {pins : List (Addr × Obj)} {σ : L2.St} {H : Hp} {s : Shared} {Q : VK} {us ws : List Value} {vs zs : List V} (M : Mk X.K C f) (F : FnG X.prog X.w X.K X.mg X.base CX k f fd ps sp) (hc : Clean X.A) (hr : Room (k + 1) X.A)
    (hb : KBn X.K fd ps (n + 1) ks g gV) (hx : PassesAt CX X σ (E σ)) (I : Inv X pins σ H s) (r : Vals vs us) (rz : Vals zs ws) (l1 : vs.length = n) (l2 : zs.length = ks.length)
    (h : ∀ x dx, H x = none → H dx = none → dx ≠ x → sp (gV (.ref x :: vs) zs) (upd (upd H dx (.own x)) x (.ins C dx [])) (fun v H2 => v = .non ∧ Q (.ref x) H2) (E σ)) :
    wpAny (model X.prog X.w) X.A (call (.ref C) us (ks.zip ws)) (EP X pins σ Q) X.xe s := by
  have q0 := h (s.heap.objs.size + 1) s.heap.objs.size (I.hok.fresh (Nat.le_succ _)) (I.hok.fresh (Nat.le_refl _)) (Nat.ne_of_lt (Nat.lt_succ_self _))
  have J := Inv.made (C := C) I
  have rs : Vals (V.ref (s.heap.objs.size + 1) :: vs) (Value.ref (s.heap.objs.size + 1) :: us) := .cons rfl r
  have n1 : (Value.ref (s.heap.objs.size + 1) :: us).length = n + 1 := by rw [List.length_cons, ← r.length, l1]
  refine wpAny_call (make_map (f := f) I.kIn M.makes M.init (beq_iff_eq.mp M.fn) (codeAny_mono (F.run _ X.stack _ _ ⟨Value.ref (s.heap.objs.size + 1) :: us, ks.zip ws⟩ (g (Value.ref (s.heap.objs.size + 1) :: us) ws) _ _ (E σ) hc (hr.make C us (ks.zip ws))
    (J.env0.make C us (ks.zip ws)) (hb.to _ _ ws J.kIn n1 (rz.length.symm.trans l2)) (hb.rel rs rz) q0) fun r s' hq => ?_))
  have z := endC hx J hq
  match r, z with
  | .error e, z => exact z
  | .ok (.ret u), z =>
    obtain ⟨v, H', J2, rv, rfl, q1⟩ := z
    exact ⟨rv, V.ref (s.heap.objs.size + 1), H', J2, rfl, q1⟩
  | .ok .next, z => exact False.elim z
  | .ok .brk, z => exact False.elim z
  | .ok .cont, z => exact False.elim z
/-- C(e, .., k = v, ..) -/
theorem pe_nk (D : Dn X.prog X.w X.K X.mg X.base CX k x C f fd ps sp n ks gV) (hc : Clean X.A) (hr : Room (k + 1) X.A) (hg : Gl X x) (hx : ∀ σ, PassesAt CX X σ (E σ)) (ha : PA X (e :: es) t) (hkw : PK X kws tk)
    (hall : (backToKw pos (keywordEach kws X.env)).all (·.1.isSome) = true := by rfl) (hks : (backToKw pos (keywordEach kws X.env)).filterMap (·.1) = ks := by rfl) (hdb : (x == ("__debug__" : Str)) = false := by decide)
    (he : starEach (e :: es) X.env = (false, eval e X.env) :: starEach es X.env := by rfl)
    (hpl : ((backTo pos (starEach (e :: es) X.env)).any (·.1) || (backToKw pos (keywordEach kws X.env)).any (·.1.isNone)) = false := by rfl) :
    PE X (.Call (.Name x p) (e :: es) kws pos) (tMakeG C n ks.length sp gV E t tk) := by
  obtain ⟨g, hb⟩ := D.b
  refine ⟨fun pins s σ H Q I h => wpAny_Call_Name_kw (ld_glob I hg D.m ?_ hdb)⟩
  refine PySem.W.callWith_KW (h₀ := X.base) I.ok.mod.kin D.mak.kp hall (thn (ha.run pos pins s σ H _ I h) ?_) hpl he
  rintro us s1 ⟨vs, H1, I1, r, q⟩
  refine thn (hkw.run pos pins s1 σ H1 _ I1 q) ?_
  rintro ws s2 ⟨zs, H2, I2, rz, l1, l2, q2⟩
  refine ⟨I2.kIn, ?_⟩
  rw [hks]
  exact run_new D.mak D.G hc hr hb (hx σ) I2 r rz l1 l2 q2
/-- C(e, ..) -/
theorem pe_n (D : Dn X.prog X.w X.K X.mg X.base CX k x C f fd ps sp n [] gV) (hc : Clean X.A) (hr : Room (k + 1) X.A) (hg : Gl X x) (hx : ∀ σ, PassesAt CX X σ (E σ)) (ha : PA X (e :: es) t) (hdb : (x == ("__debug__" : Str)) = false := by decide)
    (he : starEach (e :: es) X.env = (false, eval e X.env) :: starEach es X.env := by rfl) (hpl : (backTo pos (starEach es X.env)).any (·.1) = false := by rfl) :
    PE X (.Call (.Name x p) (e :: es) [] pos) (tMakeG C n 0 sp gV E t tNil) := by
  obtain ⟨g, hb⟩ := D.b
  refine ⟨fun pins s σ H Q I h => wpAny_Call_Name_kw (ld_glob I hg D.m ?_ hdb)⟩
  refine PySem.W.callWith_K (h₀ := X.base) I.ok.mod.kin D.mak.kp (thn (ha.run pos pins s σ H _ I h) ?_) he hpl
  rintro us s1 ⟨vs, H1, I1, r, l1, l2, q⟩
  exact ⟨I1.kIn, run_new (ks := []) (ws := []) D.mak D.G hc hr hb (hx σ) I1 r .nil l1 rfl q⟩
end
/-- what isinstance asks of a class of the text -/
structure ClsT (K : PySem.W.Frag) (C : Addr) : Prop where
  c : Cls K C
  ha : PySem.W.findIn K (.ref C) "__class__" = some (some (.builtin "object.__class__"))
  hn : PySem.W.specialIn K (.builtin "object.__class__") "__get__" = some (some (.builtin "getset_descriptor.__get__"))
  htk : PySem.W.takesIn K (.builtin "object.__class__") = some true
  hm : PySem.W.mroIn K C (.type "object") = some true
  no : ∀ k : Kind, k ≠ .odd → PySem.W.kitOne K (.type k.name) (.ref C) = some false
theorem kinds_no {K : PySem.W.Frag} {C : Addr} (h1 : PySem.W.kitOne K (.type "NoneType") (.ref C) = some false) (h2 : PySem.W.kitOne K (.type "bool") (.ref C) = some false) (h3 : PySem.W.kitOne K (.type "int") (.ref C) = some false)
    (h4 : PySem.W.kitOne K (.type "str") (.ref C) = some false) (h5 : PySem.W.kitOne K (.type "list") (.ref C) = some false) (h6 : PySem.W.kitOne K (.type "tuple") (.ref C) = some false) (h7 : PySem.W.kitOne K (.type "dict") (.ref C) = some false) :
    ∀ k : Kind, k ≠ .odd → PySem.W.kitOne K (.type k.name) (.ref C) = some false := by
  intro k h
  cases k with
  | non => exact h1
  | bl => exact h2
  | int => exact h3
  | str => exact h4
  | lst => exact h5
  | tup => exact h6
  | dct => exact h7
  | odd => exact absurd rfl h
section
variable {X : Cx} {C : Addr}
/-- isinstance(x, C), C a class of the text -/
theorem call_isC (T : ClsT X.K C) : CallR X (.builtin "isinstance") (fun xs H Q => ∃ x, xs = [x, .ref C] ∧ ((Pv H x ∧ Q (.bl false) H) ∨ (∃ a dx fs, x = .ref a ∧ H a = some (.ins C dx fs) ∧ Q (.bl true) H))) := by
  intro pins s σ H xs us Q I r h
  obtain ⟨x, rfl, h⟩ := h
  rcases h with ⟨hv, q⟩ | ⟨a, dx, fs, rfl, ha, q⟩
  · exact call_isi pins s σ H _ us Q I r ⟨x, .ref C, _, _, _, rfl, .own C, kind_ty hv, T.no _ hv, q⟩
  · refine call_isi pins s σ H _ us Q I r ⟨.ref a, .ref C, _, _, _, rfl, .own C, .base (.ins ha T.c T.ha T.hn T.htk T.hm), ?_, q⟩
    show (if (Value.ref C == Value.ref C) = true then some true else _) = some true
    rw [if_pos (by simp)]
/-- isinstance(x, dict), also of a dict whose keys are tuples -/
theorem call_isD : CallR X (.builtin "isinstance") (fun xs H Q => ∃ x, xs = [x, .ty "dict"] ∧ ((Pv H x ∧ Q (.bl (inst "dict" (kind H x))) H) ∨ (∃ a kvs, x = .ref a ∧ H a = some (.dT kvs) ∧ Q (.bl true) H))) := by
  intro pins s σ H xs us Q I r h
  obtain ⟨x, rfl, h⟩ := h
  rcases h with ⟨hv, q⟩ | ⟨a, kvs, rfl, ha, q⟩
  · exact call_isk pins s σ H _ us Q I r ⟨x, "dict", rfl, by decide, hv, q⟩
  · exact call_isi pins s σ H _ us Q I r ⟨.ref a, .ty "dict", _, _, _, rfl, .ty "dict", .base (.dT ha), kit_ty (by decide +kernel), q⟩
end
end Gd

set_option maxHeartbeats 1000000
namespace KT
open PySem L2 Gd KM
/-- a table of names and trees -/
def TabsAt (G : Hp) (kvs : List (Key × V)) : Prop := ∀ k v, (k, v) ∈ kvs → ∃ x u, k = Sum.inr x ∧ NmOk x ∧ valV kvs k = some v ∧ TrAt G v u ∧ u.Wf ∧ u.height ≤ 21 ∧ pdA u 0 ≤ 20
def spTab : Sp := fun vs H Q _ => ∃ (G : Hp) (d : Addr) (kvs : List (Key × V)), vs = [.ref d] ∧ Same G H ∧ G d = none ∧ H d = some (.dK kvs) ∧ kvs.length ≤ 1000 ∧ TabsAt G kvs ∧ ∀ H', Same H H' → Q (.bl true) H'
section
variable {P : Program} {w : World} {K : PySem.W.Frag} {mg : Str → Option Value} {base : Heap} {aS aL : Addr} {es : Array DictEntry} {n : Nat}
abbrev sis_tree_table : Stmt := top 42
theorem scis_tree_table : FnScope ["value", "key"] ["value"] (defScope sis_tree_table) := ⟨rfl, rfl, rfl, by decide +kernel, rfl, by decide +kernel, by decide +kernel⟩
theorem ok_tab {f f1 f2 : Addr} {fd fd1 fd2 : FuncData} (F : Fun K "is_tree_table" "is_tree_table" sis_tree_table f fd) (T : Txt w K mg base aS aL es n) (zd : mg "dict" = none)
    (D_is_name : Df P w K mg base CX0 2 "is_name" f1 fd1 ["value"] (spAsk isNam)) (D_is_tree : Df P w K mg base CX0 131 "is_tree" f2 fd2 ["value"] (spIsTreeB K)) : FnG P w K mg base CX0 132 f fd ["value"] spTab := by
  refine okG F scis_tree_table (fun vs H Q E h => ?_) (fun cdv A outer s H vs Q E hc hr h => ?_)
  · obtain ⟨G, d, kvs, rfl, _⟩ := h
    rfl
  obtain ⟨G, d, kvs, rfl, sG, hGd, hd, hn, tab, q⟩ := h
  refine ⟨_, (pss_cons (ps_if (pt_not (pt_val (pe_callB call_isD (by rfl) T.z_isinstance (by decide +kernel) (pa_cons (pv 0) (pa_cons (pe_bltn (v := .ty "dict") (by rfl) zd (by decide +kernel) rfl) pa_nil)))))
  (pss_one (ps_ret pe_bl)) pss_nil)
 (pss_one (ps_lock (ps_ret (pe_callB (cr_all rfl) (by rfl) T.z_all (by decide +kernel) (pa_cons (pe_lc (own := [("key", 1)]) (g := gName 1) rfl scis_tree_table.nd (pi_keys (pv 0)) (blkOk_by (N := ["value", "key"]) (sc := defScope sis_tree_table) (by decide +kernel)) (fun _ _ _ _ _ => pg_name (i := 1) scis_tree_table.nd rfl (Or.inl rfl)) (fun _ _ _ _ _ => pts_nil) (fun _ _ _ _ _ => (pe_and (pe_d D_is_name hc (hr.mono (by omega)) (by rfl) (fun _ => passN) (pa_cons (pv 1) pa_nil)) (pe_one (pe_d D_is_tree hc (hr.mono (by omega)) (by rfl) (fun _ => passN) (pa_cons (pe_dget (hu_of hr) (pv 0) (pv 1) (fun _ _ => rfl)) pa_nil)))))) pa_nil)))))), ?_⟩
  have z16 := sizeLine_eq
  have kk : kind H (.ref d) = .dct := by
    show kindO (H d) = _
    rw [hd]
    rfl
  refine ⟨_, rfl, .ref d, rfl, .inl ⟨by unfold Pv; rw [kk]; exact (fun z => nomatch z), _, rfl, ?_⟩⟩
  rw [kk]
  refine iteB (fun c => absurd c (by decide +kernel)) (fun _ => ?_)
  refine ⟨d, .dK kvs, hd, trivial, fun od => ?_⟩
  have sGf : Same G (upd H d (.frz od (.dK kvs))) := fun c o h => by
    rw [upd_ne (ne_of_none h hGd)]
    exact sG _ _ h
  refine ⟨_, rfl, d, od, rfl, .inl ⟨kvs, upd_same, fun D hD => ?_⟩⟩
  have hdD : d ≠ D := fun z => by rw [← z, upd_same] at hD; exact nomatch hD
  refine ⟨fun i m H' => m = kvs.length - i ∧ i ≤ kvs.length ∧ H' D = some (.lst ((List.replicate i true).map V.bl)) ∧ Same (upd H d (.frz od (.dK kvs))) H', ⟨_, rfl, Nat.zero_le _, upd_same, fun c o h => by rw [upd_ne (ne_of_none h hD)]; exact h⟩, ?_⟩
  rintro i m H' ⟨rfl, hi, hD', s1⟩
  have hfz := s1 _ _ upd_same
  rcases Nat.lt_or_ge i kvs.length with hlt | hge
  · refine .inr ⟨⟨hfz, hlt⟩, _, fun _ h => h, ?_⟩
    rintro x _ ⟨rfl, k, v, hk, rfl⟩
    obtain ⟨y, u, rfl, nm, hv, ht, hw, hh, hp⟩ := tab k v (List.mem_of_getElem? hk)
    refine ⟨wipe1 _ _ _, yes_go ?_⟩
    have inm : isNam (.str y) = true := by
      show (decide (1 ≤ y.length) && (decide (y.length ≤ 8) && y.cps.toList.all low)) = true
      rw [decide_eq_true nm.2.1, decide_eq_true nm.1.len, nm.2.2]
      rfl
    refine ⟨_, rfl, .str y, rfl, (fun z => nomatch z), (fun z e => by injection e with e; rw [← e]; exact nm.1.mono (by decide)), fun H2 s2 => ⟨_, rfl, ?_⟩⟩
    rw [inm]
    refine iteT ?_
    have s12 := s1.trans s2
    refine ⟨_, rfl, _, rfl, d, v, rfl, .inl ⟨kvs, Sum.inr y, .inr ⟨od, s12 _ _ upd_same⟩, rfl, hv.symm⟩, v, dT u, true, 3 * u.height, rfl, db_tree (ht.same (sGf.trans s12)), by have := tb_tree u hw 0 20 (by decide); rwa [decide_eq_true (show (pdA u 0 : Int) ≤ 20 by omega)] at this, by omega, fun H3 s3 => ⟨_, s3 _ _ (s2 _ _ hD'), by rw [List.length_map, List.length_replicate]; omega, _, by omega, rfl, hlt, ?_, ?_⟩⟩
    · rw [upd_same, List.replicate_succ', List.map_append]
      rfl
    · intro c o h
      rw [upd_ne (ne_of_none h hD)]
      exact s3 _ _ (s12 _ _ h)
  · refine .inl ⟨⟨hfz, hge⟩, D, List.replicate i true, rfl, SqL.of hD', hfz, ?_⟩
    have ea : (List.replicate i true).all id = true := List.all_eq_true.mpr fun b hb => (List.mem_replicate.mp hb).2
    rw [ea]
    refine q _ fun c o h => ?_
    by_cases z : c = d
    · rw [z] at h ⊢
      rw [upd_same, ← hd]
      exact h
    · rw [upd_ne z]
      exact s1 _ _ (by rw [upd_ne z]; exact h)
end
def spDeepW (C : Addr) : Sp := fun vs H _ E => ∃ (G : Hp) (v : V) (t : Tr) (d : Addr) (kvs : List (Key × V)) (tb : Str → Option Tr), vs = [v, .ref d] ∧ Same G H ∧ G d = none ∧ TrAt G v t ∧ t.Wf ∧ t.height ≤ 22 ∧ pdA t 0 ≤ 20 ∧ nd t ≤ 1000 ∧ H d = some (.dK kvs) ∧ kvs.length ≤ 1000 ∧ TabsAt G kvs ∧ TabAt G kvs tb 20 ∧
  (∀ x ∈ wo sName t, Tx 8 x ∧ (valV kvs (Sum.inr x)).isSome = true) ∧ (rep tb t).Wf ∧ (rep tb t).height ≤ 40 ∧ 20 < pdA (rep tb t) 0 ∧ ∀ v' e H', Same H H' → TrAt H' v' (rep tb t) → H' e = none → E (.ref C) (some e) (upd H' e (.xd [("value", v')]))
section
variable {P : Program} {w : World} {K : PySem.W.Frag} {mg : Str → Option Value} {base : Heap} {aS aL C_L f_L C_U f_U C_T f_T : Addr} {es : Array DictEntry} {n : Nat}
abbrev swith_names : Stmt := top 41
theorem scwith_names : FnScope ["tree", "table", "name", "result"] ["tree", "table"] (defScope swith_names) := ⟨rfl, rfl, rfl, by decide +kernel, rfl, by decide +kernel, by decide +kernel⟩
theorem ok_withD {f f1 f2 f3 f4 : Addr} {fd fd1 fd2 fd3 fd4 : FuncData} (F : Fun K "with_names" "with_names" swith_names f fd) (T : Txt w K mg base aS aL es n)
    (D_require_tree : Df P w K mg base (L2.CX P w) 132 "require_tree" f1 fd1 ["value"] (spReqB K C_T)) (D_is_tree_table : Df P w K mg base CX0 132 "is_tree_table" f2 fd2 ["value"] spTab) (D_words_of : Df P w K mg base CX0 1 "words_of" f3 fd3 ["tree", "kind"] spWords) (D_replaced : Df P w K mg base CX0 42 "replaced" f4 fd4 ["tree", "table"] (spRep 42)) : FnG P w K mg base (L2.CX P w) 133 f fd ["tree", "table"] (spDeepW C_T) := by
  refine okG F scwith_names (fun vs H Q E h => ?_) (fun cdv A outer s H vs Q E hc hr h => ?_)
  · obtain ⟨G, v, t, d, kvs, tb, rfl, _⟩ := h
    rfl
  obtain ⟨G, v, t, d, kvs, tb, rfl, sG, hGd, ht, hw, hh, hpd, hnd, hd, hn, tab, tab2, hnm, hrw, hrh, hrp, q⟩ := h
  refine ⟨_, (pss_cons (ps_expr (pe_d D_require_tree hc (hr.mono (by omega)) (by rfl) (fun σ => passAt (takes_of rfl rfl rfl rfl) σ) (pa_cons (pv 0) pa_nil)))
 (pss_cons (ps_if (pt_not (pt_val (pe_d D_is_tree_table hc (hr.mono (by omega)) (by rfl) (fun _ => passN) (pa_cons (pv 1) pa_nil))))
  (pss_one ps_never) pss_nil)
 (pss_cons (ps_for (passes_of rfl) rfl (pi_list (pe_d D_words_of hc (hr.mono (by omega)) (by rfl) (fun _ => passN) (pa_cons (pv 0) (pa_cons pe_str pa_nil)))) (pg_name (i := 2) scwith_names.nd rfl (Or.inl rfl))
  (pss_one (ps_if (pt_cmp (pc_dnotin (hu_of hr) (pv 2) (pv 1)))
  (pss_one ps_never) pss_nil)))
 (pss_cons (ps_set (i := 3) scwith_names.nd rfl (Or.inl rfl) (pe_d D_replaced hc (hr.mono (by omega)) (by rfl) (fun _ => passN) (pa_cons (pv 0) (pa_cons (pv 1) pa_nil))))
 (pss_cons (ps_expr (pe_d D_require_tree hc (hr.mono (by omega)) (by rfl) (fun σ => passAt (takes_of rfl rfl rfl rfl) σ) (pa_cons (pv 3) pa_nil)))
 (pss_one (ps_ret (pv 3)))))))), ?_⟩
  refine ⟨_, rfl, v, dT t, true, 3 * t.height, rfl, db_tree (ht.same sG), by have := tb_tree t hw 0 20 (by decide); rwa [decide_eq_true (show (pdA t 0 : Int) ≤ 20 by omega)] at this, by omega, fun _ H1 s1 => ?_, fun z => nomatch z⟩
  refine ⟨_, rfl, G, d, kvs, rfl, sG.trans s1, hGd, s1 _ _ hd, hn, tab, fun H2 s2 => ⟨_, rfl, ?_⟩⟩
  refine iteB (fun c => absurd c (by decide)) (fun _ => ?_)
  have s12 := s1.trans s2
  refine ⟨_, rfl, v, t, sName, rfl, ht.same (sG.trans s12), .inr rfl, hnd, fun H3 p s3 hp hp3 => ⟨p, rfl, ⟨_, SqL.of hp3⟩, ?_⟩⟩
  have s13 := s12.trans s3
  refine for_list (K := K) (a := p) (xs := (wo sName t).map V.str) (fun i σ H' => ∃ o2, σ = [some v, some (.ref d), o2, none] ∧ Same H3 H') ⟨none, rfl, Same.refl H3⟩ (fun _ _ H' _ ⟨_, _, s⟩ => SqL.of (s _ _ hp3)) ?_ ?_
  · rintro i y _ H4 hy ⟨o2, rfl, s4⟩
    rw [List.getElem?_map] at hy
    obtain ⟨x, hx, rfl⟩ := Option.map_eq_some_iff.mp hy
    obtain ⟨x8, xs⟩ := hnm x (List.mem_of_getElem? hx)
    obtain ⟨vv, hvv⟩ := Option.isSome_iff_exists.mp xs
    refine ⟨_, rfl, _, rfl, d, some vv, rfl, .inl ⟨kvs, Sum.inr x, .inl (s4 _ _ (s13 _ _ hd)), rfl, hvv.symm⟩, _, rfl, ?_⟩
    exact iteB (fun c => nomatch (show false = true from c)) (fun _ => ⟨some (.str x), rfl, s4⟩)
  · rintro _ H4 ⟨o2, rfl, s4⟩
    have s14 := s13.trans s4
    refine ⟨_, rfl, _, rfl, G, v, t, d, kvs, tb, 20, rfl, sG.trans s14, ht, hw, s14 _ _ hd, tab2, by omega, fun v' H5 s5 sl => ?_⟩
    obtain ⟨G2, a1, a2, a3, a4⟩ := sl
    exact ⟨_, rfl, v', dT (rep tb t), false, 3 * (rep tb t).height, rfl, db_tree (a3.same a2), by have := tb_tree (rep tb t) hrw 0 20 (by decide); rwa [decide_eq_false (show ¬ (pdA (rep tb t) 0 : Int) ≤ 20 by omega)] at this, by omega, (fun z => nomatch z), fun _ e H6 s6 he => q _ e _ (s14.trans (s5.trans s6)) ((a3.same a2).same s6) he⟩
theorem ok_withN {f f1 f2 f3 f4 : Addr} {fd fd1 fd2 fd3 fd4 : FuncData} (F : Fun K "with_names" "with_names" swith_names f fd) (T : Txt w K mg base aS aL es n)
    (D_require_tree : Df P w K mg base (L2.CX P w) 132 "require_tree" f1 fd1 ["value"] (spReqB K C_T)) (D_is_tree_table : Df P w K mg base CX0 132 "is_tree_table" f2 fd2 ["value"] spTab) (D_words_of : Df P w K mg base CX0 1 "words_of" f3 fd3 ["tree", "kind"] spWords) (D_replaced : Df P w K mg base CX0 42 "replaced" f4 fd4 ["tree", "table"] (spRep 42)) : FnG P w K mg base (L2.CX P w) 133 f fd ["tree", "table"] (spNoW K C_T) := by
  refine okG F scwith_names (fun vs H Q E h => ?_) (fun cdv A outer s H vs Q E hc hr h => ?_)
  · obtain ⟨v, z, d, n, rfl, _⟩ := h
    rfl
  obtain ⟨v, z, d, n, rfl, hd, tb, hn, q⟩ := h
  refine ⟨_, (pss_cons (ps_expr (pe_d D_require_tree hc (hr.mono (by omega)) (by rfl) (fun σ => passAt (takes_of rfl rfl rfl rfl) σ) (pa_cons (pv 0) pa_nil)))
 (pss_cons (ps_if (pt_not (pt_val (pe_d D_is_tree_table hc (hr.mono (by omega)) (by rfl) (fun _ => passN) (pa_cons (pv 1) pa_nil))))
  (pss_one ps_never) pss_nil)
 (pss_cons (ps_for (passes_of rfl) rfl (pi_list (pe_d D_words_of hc (hr.mono (by omega)) (by rfl) (fun _ => passN) (pa_cons (pv 0) (pa_cons pe_str pa_nil)))) (pg_name (i := 2) scwith_names.nd rfl (Or.inl rfl))
  (pss_one (ps_if (pt_cmp (pc_dnotin (hu_of hr) (pv 2) (pv 1)))
  (pss_one ps_never) pss_nil)))
 (pss_cons (ps_set (i := 3) scwith_names.nd rfl (Or.inl rfl) (pe_d D_replaced hc (hr.mono (by omega)) (by rfl) (fun _ => passN) (pa_cons (pv 0) (pa_cons (pv 1) pa_nil))))
 (pss_cons (ps_expr (pe_d D_require_tree hc (hr.mono (by omega)) (by rfl) (fun σ => passAt (takes_of rfl rfl rfl rfl) σ) (pa_cons (pv 3) pa_nil)))
 (pss_one (ps_ret (pv 3)))))))), ?_⟩
  exact ⟨_, rfl, v, d, false, n, rfl, hd, tb, hn, (fun z => nomatch z), fun _ => q⟩
end
end KT

set_option maxHeartbeats 4000000
namespace Gd
open PySem PySem.Spec PyProof.Rows L2 LamX
/-! ### lambdas with parameters, that capture nothing, as tracked things -/
def LamO (f c' : Addr) (q : Str) (params : Arguments) (body : Expr) (scope : Scope) : HO :=
  .ext fun h => ∃ pm ctv, h.get? f = some (PySem.W.kla_obj "<lambda>" q params body scope [] pm c' ctv)
theorem lamO_ok {P : Program} {w : World} {H : Hp} {h : Heap} {f c' : Addr} {q : Str} {params : Arguments} {body : Expr} {scope : Scope} {pm ctv : Value}
    (e : h.get? f = some (PySem.W.kla_obj "<lambda>" q params body scope [] pm c' ctv)) : ObjOk P w H h f (LamO f c' q params body scope) :=
  ⟨⟨pm, ctv, e⟩, ⟨_, e⟩, fun h1 h2 ⟨pm, ctv, e1⟩ st => ⟨pm, ctv, st _ e1⟩⟩
/-- the code objects of q's own name, in the table at P -/
def tLamP (P : Addr) (q : Str) (params : Arguments) (body : Expr) (scope : Scope) : TE := fun _ H Q => TabS H P q ∧
  ∀ f c' H1, ExtN H H1 → (∀ b, H1 b = none → H b = none) → TabS H1 P q → H f = none → H1 f = some (LamO f c' q params body scope) → H1 c' = some (CodeO c' q) → Q (.ref f) H1
section
variable {X : Cx}
theorem pe_lam {c P : Addr} {q : Str} {params : Arguments} {body : Expr} {scope : Scope} {pos : Pos} (TB : TabB X.base X.mg c P) (hcode : X.env.code = .ref c) (eq : X.env.qual ++ "<lambda>" = q) (hdef : defaultsOf params X.env = ([], []) := by rfl) (hcl : closureFor scope X.env = pure [] := by rfl) :
    PE X (.Lambda params body scope pos) (tLamP P q params body scope) := by
  refine ⟨fun pn s σ H Q I h => ?_⟩
  obtain ⟨⟨ps, hP, ht, ha⟩, h⟩ := h
  refine PySem.W.kla_eval hdef ?_
  rw [eq]
  have bP : s.heap.BuiltinsAt X.mg P := TB.bm.keeps I.bk
  have hP' : s.heap.get? P = some { cls := .none, data := .fields ps } := I.hok P _ hP
  cases hc : codeAmong pos ps.toList with
  | none =>
    refine PySem.W.kla_makeFunction (mg := X.mg) (c := c) (P := P) (ps := ps) hcl I.ok.glob (I.mod.glob.keeps I.bk) hcode (TB.code.keeps I.bk) hP' ht hc TB.gP bP fun c' ctv h' tk hx hge hlt hrec htb => ?_
    obtain ⟨c2, oc, vs, t, e2, hoc, hd, hv⟩ := hrec
    cases e2
    have nC : H c' = none := I.hok.fresh hge
    have I1 := inv_table (q := q) (t' := tk) (more := #[rawInt pos.line, rawInt pos.col, .ref c']) I hP hx htb hge ⟨oc, vs, t, hoc, hd, hv⟩
    obtain ⟨H1, hH1⟩ : ∃ H1, upd (upd H P (.tbl (ps ++ #[rawInt pos.line, rawInt pos.col, .ref c']))) c' (CodeO c' q) = H1 := ⟨_, rfl⟩
    rw [hH1] at I1
    have hE : ExtN H H1 := fun b o e n => by
      rw [← hH1, upd_ne (ne_of_none e nC), upd_ne (fun z => n ps (Option.some.inj (e.symm.trans (by rw [z]; exact hP))))]
      exact e
    have hE2 : H1 c' = some (CodeO c' q) := by rw [← hH1]; exact upd_same
    have T1 : TabS H1 P q := by
      have eL : (ps ++ #[rawInt pos.line, rawInt pos.col, .ref c']).toList = ps.toList ++ [rawInt pos.line, rawInt pos.col, .ref c'] := by simp
      refine ⟨_, by rw [← hH1, upd_ne (ne_of_none hP nC), upd_same], by rw [eL]; exact PySem.TriplesOk_snoc _ _ _ _ ht, fun p' cv hcv => ?_⟩
      rw [eL] at hcv
      rcases among_app _ ht hcv with z | z
      · obtain ⟨c0, e1, e2⟩ := ha p' cv z
        exact ⟨c0, e1, hE _ _ e2 codeO_ne⟩
      · exact ⟨c', z, hE2⟩
    have nf : H1 h'.objs.size = none := I1.hok.fresh (Nat.le_refl _)
    have I2 := I1.laid (t' := tk) (o := LamO h'.objs.size c' q params body scope) (h' := h'.push (PySem.W.kla_obj "<lambda>" q params body scope [] ((X.mg "__name__").getD .none) c' ctv)) (fun b o e => Heap.get?_push_of_some _ e) (Nat.le_refl _)
      (lamO_ok (Heap.get?_push_size _ rfl))
    have s2 : ∀ b o, H1 b = some o → upd H1 h'.objs.size (LamO h'.objs.size c' q params body scope) b = some o := fun b o e => by rw [upd_ne (ne_of_none e nf)]; exact e
    refine ⟨.ref h'.objs.size, _, I2, rfl, h _ c' _ (hE.trans (ExtN.of s2)) (fun b z => ?_) (T1.ext s2) ?_ upd_same (s2 _ _ hE2)⟩
    · refine Classical.byContradiction fun q => ?_
      obtain ⟨o, e⟩ := Option.ne_none_iff_exists'.mp q
      by_cases hb : b = P
      · have e1 : H1 b ≠ none := by
          rw [hb, ← hH1, upd_ne (ne_of_none hP nC), upd_same]
          exact fun z => nomatch z
        obtain ⟨o1, e2⟩ := Option.ne_none_iff_exists'.mp e1
        rw [s2 _ _ e2] at z
        exact nomatch z
      · have e1 : H1 b = some o := by rw [← hH1, upd_ne (ne_of_none e nC), upd_ne hb]; exact e
        rw [s2 _ _ e1] at z
        exact nomatch z
    cases e : H h'.objs.size with
    | none => rfl
    | some o =>
      have lt : h'.objs.size < s.heap.objs.size := (I.hok _ _ e).lt
      omega
  | some cv =>
    obtain ⟨c', rfl, hco⟩ := ha pos cv hc
    refine PySem.W.kla_makeFunctionHit (mg := X.mg) (c := c) (P := P) (ps := ps) hcl I.ok.glob (I.mod.glob.keeps I.bk) hcode (TB.code.keeps I.bk) hP' ht hc bP fun ctv h' tk hx hsz => ?_
    have nf : H h'.objs.size = none := I.hok.fresh hsz
    have I2 := I.laid (t' := tk) (o := LamO h'.objs.size c' q params body scope) (h' := h'.push (PySem.W.kla_obj "<lambda>" q params body scope [] ((X.mg "__name__").getD .none) c' ctv)) (fun b o e => Heap.get?_push_of_some _ (hx b o e)) hsz
      (lamO_ok (Heap.get?_push_size _ rfl))
    have s2 : ∀ b o, H b = some o → upd H h'.objs.size (LamO h'.objs.size c' q params body scope) b = some o := fun b o e => by rw [upd_ne (ne_of_none e nf)]; exact e
    exact ⟨.ref h'.objs.size, _, I2, rfl, h _ c' _ (ExtN.of s2) (fun b z => Classical.byContradiction fun q => by
      obtain ⟨o, e⟩ := Option.ne_none_iff_exists'.mp q
      rw [s2 _ _ e] at z
      exact nomatch z) (TabS.ext ⟨ps, hP, ht, ha⟩ s2) nf upd_same (s2 _ _ hco)⟩
end
/-! ### a value that can be called: a def of the text, or such a lambda that stands in the heap -/
structure Cal (P : Program) (w : World) (K : PySem.W.Frag) (mg : Str → Option Value) (base : Heap) (k : Nat) (G : Hp → Prop) (f : Addr) (sp : List V → Hp → VK → Prop) : Prop where
  fn : ∀ (h : Heap) (H : Hp), K.In h → HOk P w H h → G H → PySem.W.FnAt f h
  run : ∀ (A : Around) (outer : List Env) (s : Shared) (H : Hp) (us : List Value) (vs : List V) (Q : VK), Clean A → Room k A → Env0 P w K mg base A outer s H → Vals vs us → G H → sp vs H Q →
    codeAny (model P w) A (.call (.ref f) ⟨us, []⟩) (CR CX0 outer P w H s Q E0) s
theorem Cal.mono {P : Program} {w : World} {K : PySem.W.Frag} {mg : Str → Option Value} {base : Heap} {k k' : Nat} {G : Hp → Prop} {f : Addr} {sp : List V → Hp → VK → Prop} (C : Cal P w K mg base k G f sp) (h : k ≤ k') : Cal P w K mg base k' G f sp :=
  ⟨C.fn, fun A outer s H us vs Q hc hr e0 r g q => C.run A outer s H us vs Q hc (hr.mono h) e0 r g q⟩
/-- a def of the text -/
theorem Cal.def {P : Program} {w : World} {K : PySem.W.Frag} {mg : Str → Option Value} {base : Heap} {k : Nat} {f : Addr} {fd : FuncData} {ps : List Str} {sp : Sp} {x qual : Str} {st : Stmt} (F : Fun K x qual st f fd) (C : FnG P w K mg base CX0 k f fd ps sp) (b : Binds K fd ps []) :
    Cal P w K mg base k (fun _ => True) f (fun vs H Q => sp vs H Q E0) := by
  obtain ⟨oc, od, kV, doc, pm, an, cdv, ct, osl, efd, lk, hcd⟩ := F.ex
  refine ⟨fun h H kin _ _ => ⟨_, _, _, _, kin _ _ lk⟩, fun A outer s H us vs Q hc hr e0 r _ q => ?_⟩
  have KX : K.In s.heap := e0.mod.kin.keeps fun b o e => (e0.bs b o e).1
  have hl := C.len _ _ _ _ q
  have b2 := b s us KX (by rw [List.append_nil, ← r.length]; exact hl)
  rw [List.append_nil] at b2
  exact C.run A outer s H ⟨us, []⟩ us vs Q E0 hc hr e0 b2 r q
/-- a lambda: its body's reading -/
theorem Cal.lam {P : Program} {w : World} {K : PySem.W.Frag} {mg : Str → Option Value} {base : Heap} {k : Nat} {f c' : Addr} {q : Str} {params : Arguments} {body : Expr} {scope : Scope} {N ps : List Str} {sp : List V → Hp → VK → Prop} (S : FnScope N ps scope)
    (hb : ∀ (pm ctv : Value) (us : List Value), us.length = ps.length → bindArgs (PySem.W.kla_fn "<lambda>" q params body scope [] pm (.ref c') ctv) ⟨us, []⟩ = pure (ps.zip us)) (len : ∀ vs H Q, sp vs H Q → vs.length = ps.length)
    (hbody : ∀ (A : Around) (outer : List Env) (s : Shared) (H : Hp) (vs : List V) (Q : VK), Clean A → Room k (A.deeper (envOfC q scope s.heap.objs.size f (.ref c'))) → sp vs H Q →
      ∃ t, PE (cxOf CX0 P w K mg base N q scope f (.ref c') A outer s H E0) body t ∧ t (L2.start N vs) H Q) :
    Cal P w K mg base (k + 1) (fun H => H f = some (LamO f c' q params body scope) ∧ H c' = some (CodeO c' q)) f sp := by
  refine ⟨fun h H _ hok ⟨hf, _⟩ => ?_, fun A outer s H us vs Q hc hr e0 r ⟨hf, hcd⟩ q => ?_⟩
  · obtain ⟨⟨pm, ctv, e⟩, _, _⟩ := hok f _ hf
    exact ⟨_, _, _, _, e⟩
  obtain ⟨⟨pm, ctv, hof⟩, _, _⟩ := e0.hok f _ hf
  obtain ⟨⟨oc, vc, t, hoc, hdc, hvc⟩, _, _⟩ := e0.hok c' _ hcd
  have bk : ∀ b o, base.get? b = some o → s.heap.get? b = some o := fun b o e => (e0.bs b o e).1
  have hl := len _ _ _ q
  have hul : us.length = ps.length := by rw [← r.length, hl]
  have hkind : ∀ y ∈ ps.zip us, scope.names.lookup y.1 = some .local ∨ (scope.names.lookup y.1 = some .cell ∧ ((cellsFrom (s.heap.objs.size + 1) scope.names []).lookup y.1).isSome = true) := by
    rintro ⟨n, v⟩ hy
    exact (S.par n (List.of_mem_zip hy).1).imp id fun q => ⟨q, PySem.W.cellsFrom_some _ _ _ (.inl q)⟩
  refine PySem.W.kla_callFunE hr.depth hof rfl S.co S.gen rfl ⟨c', oc, vc, t, rfl, hoc, hdc, hvc⟩ ?_
  rw [hb pm ctv us hul]
  refine wpAny_pure (wpAny_newFunctionEnv_cells S.kind hkind ?_)
  intro env he s1 x
  subst he
  refine ⟨(e0.mod.nolimit.keeps bk).keeps x.toInCall.keep, PySem.W.kla_codeExpr ?_⟩
  obtain ⟨t, ht, hq⟩ := hbody A outer s H vs Q hc (hr.deeper _) q
  have J := inv_start (CX := CX0) (E := E0) S hr.hd e0 hl r x
  refine wpAny_mono (ht.run [] s1 _ H Q J hq) (fun u s' hs => ?_) fun _ _ z => z
  obtain ⟨v, H', J', rv, q⟩ := hs
  exact ⟨v, H', J'.os, J'.bare, J'.base, J'.hok, rv, q⟩
/-- the call of a local name that holds such a value -/
theorem pe_callC {X : Cx} {k i : Nat} {G : Hp → Prop} {f : Addr} {sp : List V → Hp → VK → Prop} {x : Str} {p pos : Pos} {e : Expr} {es : List Expr} {t : TA} (C : Cal X.prog X.w X.K X.mg X.base k G f sp) (hc : Clean X.A) (hr : Room k X.A) (hN : X.N[i]? = some x) (hv : Vis X.env.scope x)
    (hx : Passes CX0 X E0) (ha : PA X (e :: es) t) (hdb : (x == ("__debug__" : Str)) = false := by decide) (hcd : (x == ("__classdict__" : Str)) = false := by decide)
    (he : starEach (e :: es) X.env = (false, eval e X.env) :: starEach es X.env := by rfl) (hpl : (backTo pos (starEach es X.env)).any (·.1) = false := by rfl) :
    PE X (.Call (.Name x p) (e :: es) [] pos) (fun σ H Q => σ[i]? = some (some (.ref f)) ∧ G H ∧ t σ H fun vs H1 => G H1 ∧ sp vs H1 Q) := by
  refine ⟨fun pn s σ H Q I ⟨hs, g, ht⟩ => ?_⟩
  refine wpAny_Call_Name_kw (thn ((pe_var (pos := p) hN hv hdb hcd).run pn s σ H (fun v H1 => v = .ref f ∧ H1 = H) I ⟨.ref f, hs, rfl, rfl⟩) ?_)
  rintro u s1 ⟨_, _, I1, r1, rfl, rfl⟩
  obtain rfl : u = .ref f := r1
  refine PySem.W.callWith_F (C.fn _ _ I1.kIn I1.hok g) (thn (ha.run pos pn s1 σ _ _ I1 ht) ?_) he hpl
  rintro us s2 ⟨vs, H2, I2, r, g2, q⟩
  refine ⟨C.fn _ _ I2.kIn I2.hok g2, wpAny_call (codeAny_mono (C.run X.A X.stack s2 H2 us vs Q hc hr I2.env0 r g2 q) ?_)⟩
  intro r s' hq
  match r, hq with
  | .error e, hq => exact hx pn σ H2 s2 e s' I2 hq
  | .ok (.ret u), hq => exact I2.after hq
  | .ok .next, hq => exact False.elim hq
  | .ok .brk, hq => exact False.elim hq
  | .ok .cont, hq => exact False.elim hq
end Gd
namespace Gd
open PySem PySem.Spec PyProof.Rows L2 LamX
/-- the value of a def, as an argument -/
theorem defK {P : Program} {w : World} {K : PySem.W.Frag} {mg : Str → Option Value} {base : Heap} {CX : CXT} {k : Nat} {x : Str} {f : Addr} {fd : FuncData} {ps : List Str} {sp : Sp} (D : Df P w K mg base CX k x f fd ps sp) : ∃ u, mg x = some u ∧ RelV (.ref f) u := ⟨_, D.m, rfl⟩
/-- a def that makes lambdas: its code object is told -/
theorem okGc {P : Program} {w : World} {K : PySem.W.Frag} {mg : Str → Option Value} {base : Heap} {k : Nat} {f c : Addr} {fd : FuncData} {ps : List Str} {sp : Sp} {CX : CXT} {x qual : Str} {st : Stmt} {N : List Str} (F : Fun K x qual st f fd) (S : FnScope N ps (defScope st))
    (len : ∀ vs H Q E, sp vs H Q E → vs.length = ps.length) (hcode : fd.code = .ref c)
    (hbody : ∀ (A : Around) (outer : List Env) (s : Shared) (H : Hp) (vs : List V) (Q : VK) (E : XK), Clean A → Room k (A.deeper (envOfC qual (defScope st) s.heap.objs.size f (.ref c))) → sp vs H Q E →
      ∃ t, PSs (cxOf CX P w K mg base N qual (defScope st) f (.ref c) A outer s H E) (defBody st) t ∧ t { nx := fun _ H' => Q .non H', rt := Q } (start N vs) H) : FnG P w K mg base CX (k + 1) f fd ps sp := by
  obtain ⟨oc, od, kV, doc, pm, an, cdv, ct, osl, efd, lk, hcd⟩ := F.ex
  subst efd
  obtain rfl : cdv = .ref c := hcode
  refine ⟨len, fun A outer s H args us vs Q E hc hr e0 hb r hsp => ?_⟩
  have bk : ∀ b o, base.get? b = some o → s.heap.get? b = some o := fun b o e => (e0.bs b o e).1
  have KX : K.In s.heap := e0.mod.kin.keeps bk
  have kinds : ∀ y ∈ ps.zip us, (defScope st).names.lookup y.1 = some .local ∨ ((defScope st).names.lookup y.1 = some .cell ∧ ((cellsFrom (s.heap.objs.size + 1) (defScope st).names []).lookup y.1).isSome = true) := by
    rintro ⟨n, v⟩ hy
    exact (S.par n (List.of_mem_zip hy).1).imp id fun q => ⟨q, PySem.W.cellsFrom_some _ _ _ (.inl q)⟩
  refine codeAny_call_function hr.depth (KX _ _ lk) rfl S.co S.gen rfl (PySem.W.codeRec_of KX hcd) (hb _ _ _ _ (wpAny_newFunctionEnv_cells S.kind kinds ?_))
  intro env he s1 x
  subst he
  refine ⟨(e0.mod.nolimit.keeps bk).keeps x.toInCall.keep, codeAny_func ?_⟩
  obtain ⟨t, ht, hq⟩ := hbody A outer s H vs Q E hc (hr.deeper _) hsp
  have I := inv_start (CX := CX) (E := E) S hr.hd e0 (len _ _ _ _ hsp) r x
  refine wpAny_mono (ht.run [] s1 (start N vs) H _ I hq) (fun fl s' hs => ?_) fun _ _ z => z
  match fl, hs with
  | .ret u, ⟨v, σ', H', J, rv, q⟩ => exact ⟨v, H', J.os, J.bare, J.base, J.hok, rv, q⟩
  | .next, ⟨σ', H', J, q⟩ => exact ⟨V.non, H', J.os, J.bare, J.base, J.hok, rfl, q⟩
  | .brk, ⟨_, _, _, q⟩ => exact q.elim
  | .cont, ⟨_, _, _, q⟩ => exact q.elim
end Gd

/-! a try with a clause «except (A, B) as e», isinstance of e there; calls of values that may raise -/
namespace Gd
open PySem PySem.Spec PyProof.Rows L2
theorem fly_keep {B h h' : Heap} {l : List Env} {e : Addr} {Z : Obj → Prop} (x : PySem.HandSPX.FlyingZ B l e Z h) (k : ∀ b o, h.get? b = some o → h'.get? b = some o) : PySem.HandSPX.FlyingZ B l e Z h' := by
  obtain ⟨a, b, c, oe, vs, T, oT, ts, h1, h2, h3, h4, h5, h6, h7, h8, h9⟩ := x
  exact ⟨fun b o hb => k _ _ (a b o hb), b, c.of_keeps fun b o hb _ => ⟨o, k _ _ hb, rfl⟩, oe, vs, T, oT, ts, k _ _ h1, h2, h3, h4, h5, h6, k _ _ h7, h8, h9⟩
/-- what the one told clause wishes; an exception that it does not take can't be -/
def wTwo (K : PySem.W.Frag) (D : Ends) (c1 c2 : Value) (i : Nat) (ts : Addr → Value → Option Addr → TS) : WX := fun cls d σ H =>
  PySem.W.exmAny K cls [c1, c2] = some true ∧ ∀ a, H a = none → ts a cls d (gone D i) (σ.set i (some (.ref a))) H
section
variable {X : Cx} {body : List Stmt} {hds : List ExceptHandler} {pos : Pos} {tb : WX → TS} {x1 x2 n : Str} {i : Nat} {c1 c2 : Value} {ts : Addr → Value → Option Addr → TS} {b₀ : Stmt} {suite : List Stmt} {p1 p2 tpos ps : Pos} {kk : Nat}
theorem ps_tryTwo (hs : X.stack = X.env :: X.outer) (hf : X.env.frame = some X.env.locals) (hN : X.N.Nodup) (hi : X.N[i]? = some n) (hl : X.env.kindOf n = some .local) (hc1 : Names X x1 c1) (hc2 : Names X x2 c2)
    (hb : ∀ (W : WX) (pn : List (Addr × Obj)) (xe : Value → Shared → Prop), Takes (X.tr pn xe) W → PassesOwn (model X.prog X.w) X.A X.env xe → PSs (X.tr pn xe) body (tb W))
    (hsu : ∀ (a : Addr) (oe : Obj) (cls : Value) (d : Option Addr) (pn : List (Addr × Obj)), Zc cls d oe → (∃ vs, oe.data = .fields vs) → PSs (X.suite a ((a, oe) :: pn)) (b₀ :: suite) (ts a cls d)) :
    PS X (.Try body (.ExceptHandler (some (.Tuple [.Name x1 p1, .Name x2 p2] kk tpos)) (some n) (b₀ :: suite) ps :: hds) [] [] pos) (fun D σ H => tb (wTwo X.K D c1 c2 i ts) D σ H) := by
  refine ⟨fun pins s σ H D I h => ?_⟩
  have ok := I.ok
  have hfr : X.A.frames = some (X.env :: X.outer) := ok.frames.trans (congrArg some hs)
  refine wpAny_Try_except (wpAny_mono ((hb (wTwo X.K D c1 c2 i ts) (X.pn ++ pins) _ ?caught PassesOwn.looking).run [] s σ H D (I.toTry _) h) ?norm fun _ _ z => z)
  case norm =>
    intro f s1 hsp
    match f, hsp with
    | .next, ⟨σ', H', J, q⟩ => exact wpAny_execs_nil ⟨σ', H', J.ofTry ok, q⟩
    | .brk, ⟨σ', H', J, q⟩ => exact ⟨σ', H', J.ofTry ok, q⟩
    | .cont, ⟨σ', H', J, q⟩ => exact ⟨σ', H', J.ofTry ok, q⟩
    | .ret u, ⟨v, σ', H', J, r, q⟩ => exact ⟨v, σ', H', J.ofTry ok, r, q⟩
  case caught =>
    intro u s' xx
    obtain ⟨a, B, sI, pins', σ', H', cls, d, rfl, J', nb, up, sky, na, os, ag, w⟩ := xx
    have J : Inv X pins σ' H' sI := J'.ofTry ok
    rw [show (X.tr (X.pn ++ pins) _).stack = X.env :: X.outer from hs] at sky
    show wpAny _ X.A (noteFrame (.ref a) X.env) _ _ _
    refine Sky.land Zc.steady hfr hf sky fun h3 fl3 up3 => ?_
    have J3 : Inv X pins σ' H' { s' with heap := h3 } := J.landed nb fl3.1 (up.trans up3) os ag
    obtain ⟨oe3, vs3, he3, hz3, hd3⟩ := fl3.there
    have nfr : a ∉ frs (X.env :: X.outer) := fun hm => by
      obtain ⟨_, o, e, hn⟩ := fl3.2.2.1.mem hm
      rw [he3] at e
      cases e
      exact hn _ hd3
    have nL : a ≠ X.env.locals := fun z => nfr (List.mem_filterMap.mpr ⟨X.env, List.mem_cons_self, by rw [hf, z]⟩)
    have nF : a ∉ X.fs := fun hm => nfr (let ⟨e, he, q⟩ := List.mem_filterMap.mp hm; List.mem_filterMap.mpr ⟨e, List.mem_cons_of_mem _ he, q⟩)
    have S3 := J3.suite he3 hd3 na nL nF
    have LT : PySem.W.Looks (model X.prog X.w) h3 (typeOf (.ref a)) cls := fun A Q E s k q => wpAny_typeOf_ref (k _ _ he3) (by rw [hz3.1]; exact q)
    have test : ∀ {x : Str} {c : Value} {np : Pos} {Q E : Value → Shared → Prop}, Names X x c → Q c { s' with heap := h3 } → wpAny (model X.prog X.w) (X.A.mark (some (.ref a))) (eval (.Name x np) X.env) Q E { s' with heap := h3 } := by
      rintro x c np Q E ⟨hg, hdb, hm | ⟨hm, hv, hn⟩⟩ q
      · exact ld_glob (X := X.suite a ((a, oe3) :: (X.pn ++ pins))) S3 hg hm q hdb
      · exact ld_blt (X := X.suite a ((a, oe3) :: (X.pn ++ pins))) S3 hg hm hv q hn hdb
    obtain ⟨hb1, yes⟩ := w
    have kp : ∀ q o, h3.get? q = some o → (h3.push { cls := .type "tuple", data := .seq [c1, c2].toArray }).get? q = some o := fun _ _ z => Heap.get?_push_of_some _ z
    refine wpAny_handleBy_cons (codeAny_handlers_test ?_) (fun q => nomatch q)
    refine wpAny_Tuple (wpAny_items_cons (test hc1 (wpAny_items_cons (test hc2 (wpAny_items_nil ⟨by size_fits, ?_⟩)))))
    refine (PySem.W.exm_tup2 (M := model X.prog X.w) (J3.kIn.keeps kp) (LT.keeps kp) (Heap.get?_push_size h3 rfl) hb1).here ?_
    have fl3' := fly_keep fl3 kp
    have up3' : s'.heap.UpToSlots (h3.push { cls := .type "tuple", data := .seq [c1, c2].toArray }) := up3.trans (.of_keeps kp)
    generalize (h3.push { cls := .type "tuple", data := .seq [c1, c2].toArray }) = g3 at fl3' up3'
    refine codeAny_handlers_suite_as (HandSPX.lands_againZ fl3' fun h4 fl4 up4 => ?_)
    have J4 : Inv X pins σ' H' { s' with heap := h4 } := J.landed nb fl4.1 ((up.trans up3').trans up4) os ag
    obtain ⟨oe4, vs4, he4, hz4, hd4⟩ := fl4.there
    refine store_ok (X := X.suite a ((a, oe4) :: (X.pn ++ pins))) (v := .ref a) (J4.suite he4 hd4 na nL nF) hN hi (.inl hl) rfl (fun s5 S5 => ?_) (.inr hl)
    refine wpAny_mono ((hsu a oe4 cls d (X.pn ++ pins) hz4 ⟨_, hd4⟩).run [] s5 _ H' (gone D i) S5 (yes a na)) (fun f s6 hsp => ?_) fun _ _ z => z.elim
    have fin : ∀ {σ6 : L2.St} {H6 : Hp} {Q : Shared → Prop}, Inv (X.suite a ((a, oe4) :: (X.pn ++ pins))) [] σ6 H6 s6 → (∀ s7, Inv X pins (σ6.set i none) H6 s7 → Q s7) →
      wpAny (model X.prog X.w) X.A (do bindName X.env n .none; unbindBehindTheSuite X.env n ps) (fun _ s7 => Q s7) X.xe s6 := fun S6 hq => gone_ok (S6.unsuite ok) hN hi hl hq
    match f, hsp with
    | .next, ⟨σ6, H6, S6, q6⟩ => exact fin S6 fun s7 J7 => ⟨_, _, J7, q6⟩
    | .brk, ⟨σ6, H6, S6, q6⟩ => exact fin S6 fun s7 J7 => ⟨_, _, J7, q6⟩
    | .cont, ⟨σ6, H6, S6, q6⟩ => exact fin S6 fun s7 J7 => ⟨_, _, J7, q6⟩
    | .ret u, ⟨v6, σ6, H6, S6, r6, q6⟩ => exact fin S6 fun s7 J7 => ⟨_, _, _, J7, r6, q6⟩
/-- isinstance(e, D), e the exception that the suite holds -/
theorem call_isS {a : Addr} {oe : Obj} {cls : Value} {d : Option Addr} {pn : List (Addr × Obj)} (hz : Zc cls d oe) (hf : ∃ vs, oe.data = .fields vs) :
    CallR (X.suite a ((a, oe) :: pn)) (.builtin "isinstance") (fun xs H Q => ∃ (C D dd : Addr) (fs : List (Str × V)) (b : Bool), xs = [.ref a, .ref D] ∧ cls = .ref C ∧ d = some dd ∧ H dd = some (.xd fs) ∧ ExcT X.K C ∧ PySem.W.kitOne X.K (.ref C) (.ref D) = some b ∧ Q (.bl b) H) := by
  intro pins s σ H xs us Q I r h
  obtain ⟨C, D, dd, fs, b, rfl, ec, ed, hd, T, hk, q⟩ := h
  obtain ⟨u1, u2, rfl, r1, r2⟩ := vals2 r
  obtain rfl : u1 = Value.ref a := r1
  obtain rfl : u2 = Value.ref D := r2
  subst ec
  subst ed
  obtain ⟨ha, _⟩ := I.pin (a, oe) (List.mem_append_left _ List.mem_cons_self)
  obtain ⟨vs, hdt⟩ := hf
  obtain ⟨mA, hns, hr⟩ := (show ObjOk X.prog X.w H s.heap dd (.xd fs) from I.hok dd _ hd)
  obtain ⟨od, ho, hl⟩ := lookIn_ns hns
  have J : PySem.W.InstAt s.heap a oe C (some od) := ⟨ha, hz.1, by unfold PySem.W.notCls; rw [hdt] <;> rfl, by rw [hz.2]; exact ho⟩
  exact PySem.W.kia_one (PySem.W.kitx_exc T.hcl T.hga T.hgt T.hsub T.ha T.hn T.htk T.hm) I.kIn J hk (fun z => nomatch z) fun tk => ⟨.bl b, H, I.tok tk, rfl, q⟩
end
/-- e.value, the exception of one of two classes -/
theorem pe_by2 {X : Cx} {nm nm2 : Str} {qn qn2 : String} {C C2 fI fI2 : Addr} {a : Addr} {oe : Obj} {cls : Value} {d : Option Addr} {pn : List (Addr × Obj)} {e : Expr} {te : TE} {pos : Pos} (T : PySem.EzValue.LowTxt X.K X.mg nm qn C fI) (T2 : PySem.EzValue.LowTxt X.K X.mg nm2 qn2 C2 fI2) (hz : Zc cls d oe) (hf : ∃ vs, oe.data = .fields vs) (he : PE (X.suite a ((a, oe) :: pn)) e te)
    (hb : attributeBase e "value" X.env (eval e X.env) = eval e X.env := by rfl) :
    PE (X.suite a ((a, oe) :: pn)) (.Attribute e "value" pos) (fun σ H Q => te σ H fun x H1 => x = .ref a ∧ (cls = .ref C ∨ cls = .ref C2) ∧ ∃ (dd : Addr) (v : V), d = some dd ∧ H1 dd = some (.xd [(("value" : Str), v)]) ∧ Q v H1) := by
  refine ⟨fun pins s σ H Q I h => ?_⟩
  refine attr_of hb (thn (he.run pins s σ H _ I h) fun u s1 hh => ?_)
  obtain ⟨x, H1, I1, rx, ex, ec, dd, v, ed, ea, q⟩ := hh
  subst ex
  obtain rfl : u = Value.ref a := rx
  subst ed
  obtain ⟨ha, _⟩ := I1.pin (a, oe) (List.mem_append_left _ List.mem_cons_self)
  obtain ⟨vs, hd⟩ := hf
  have hx : ObjOk X.prog X.w H1 s1.heap dd (.xd [(("value" : Str), v)]) := I1.hok dd _ ea
  obtain ⟨mA, hns, hr⟩ := hx
  obtain ⟨od, ho, hl⟩ := lookIn_ns hns
  have l : List.lookup ("value" : Str) [(("value" : Str), v)] = some v := by simp [List.lookup]
  obtain ⟨u, hu, ru⟩ := RelO.some_of (v := v) (o := mA "value") (by rw [← l]; exact hr "value")
  rcases ec with rfl | rfl
  · have J : PySem.W.InstAt s1.heap a oe C (some od) := ⟨ha, hz.1, by unfold PySem.W.notCls; rw [hd] <;> rfl, by rw [hz.2]; exact ho⟩
    exact PySem.HandSPX.exc_get I1.kIn J T.ga T.gg T.exC (PySem.W.findObj_own T.hdC T.noN rfl (by rw [hl, hu])) (handed_of ru) ⟨v, H1, I1.tok _, ru, q⟩
  · have J : PySem.W.InstAt s1.heap a oe C2 (some od) := ⟨ha, hz.1, by unfold PySem.W.notCls; rw [hd] <;> rfl, by rw [hz.2]; exact ho⟩
    exact PySem.HandSPX.exc_get I1.kIn J T2.ga T2.gg T2.exC (PySem.W.findObj_own T2.hdC T2.noN rfl (by rw [hl, hu])) (handed_of ru) ⟨v, H1, I1.tok _, ru, q⟩
/-! ### a value that can be called and may raise -/
structure CalE (P : Program) (w : World) (K : PySem.W.Frag) (mg : Str → Option Value) (base : Heap) (CX : CXT) (k : Nat) (G : Hp → Prop) (f : Addr) (sp : Sp) : Prop where
  fn : ∀ (h : Heap) (H : Hp), K.In h → HOk P w H h → G H → PySem.W.FnAt f h
  run : ∀ (A : Around) (outer : List Env) (s : Shared) (H : Hp) (us : List Value) (vs : List V) (Q : VK) (E : XK), Clean A → Room k A → Env0 P w K mg base A outer s H → Vals vs us → G H → sp vs H Q E →
    codeAny (model P w) A (.call (.ref f) ⟨us, []⟩) (CR CX outer P w H s Q E) s
theorem CalE.mono {P : Program} {w : World} {K : PySem.W.Frag} {mg : Str → Option Value} {base : Heap} {CX : CXT} {k k' : Nat} {G : Hp → Prop} {f : Addr} {sp : Sp} (C : CalE P w K mg base CX k G f sp) (h : k ≤ k') : CalE P w K mg base CX k' G f sp :=
  ⟨C.fn, fun A outer s H us vs Q E hc hr e0 r g q => C.run A outer s H us vs Q E hc (hr.mono h) e0 r g q⟩
theorem CalE.def {P : Program} {w : World} {K : PySem.W.Frag} {mg : Str → Option Value} {base : Heap} {CX : CXT} {k : Nat} {f : Addr} {fd : FuncData} {ps : List Str} {sp : Sp} {x qual : Str} {st : Stmt} (F : Fun K x qual st f fd) (C : FnG P w K mg base CX k f fd ps sp) (b : Binds K fd ps []) :
    CalE P w K mg base CX k (fun _ => True) f sp := by
  obtain ⟨oc, od, kV, doc, pm, an, cdv, ct, osl, efd, lk, hcd⟩ := F.ex
  refine ⟨fun h H kin _ _ => ⟨_, _, _, _, kin _ _ lk⟩, fun A outer s H us vs Q E hc hr e0 r _ q => ?_⟩
  have KX : K.In s.heap := e0.mod.kin.keeps fun b o e => (e0.bs b o e).1
  have hl := C.len _ _ _ _ q
  have b2 := b s us KX (by rw [List.append_nil, ← r.length]; exact hl)
  rw [List.append_nil] at b2
  exact C.run A outer s H ⟨us, []⟩ us vs Q E hc hr e0 b2 r q
theorem CalE.lam {P : Program} {w : World} {K : PySem.W.Frag} {mg : Str → Option Value} {base : Heap} {CX : CXT} {k : Nat} {f c' : Addr} {q : Str} {params : Arguments} {body : Expr} {scope : Scope} {N ps : List Str} {sp : Sp} (S : FnScope N ps scope)
    (hb : ∀ (pm ctv : Value) (us : List Value), us.length = ps.length → bindArgs (PySem.W.kla_fn "<lambda>" q params body scope [] pm (.ref c') ctv) ⟨us, []⟩ = pure (ps.zip us)) (len : ∀ vs H Q E, sp vs H Q E → vs.length = ps.length)
    (hbody : ∀ (A : Around) (outer : List Env) (s : Shared) (H : Hp) (vs : List V) (Q : VK) (E : XK), Clean A → Room k (A.deeper (envOfC q scope s.heap.objs.size f (.ref c'))) → sp vs H Q E →
      ∃ t, PE (cxOf CX P w K mg base N q scope f (.ref c') A outer s H E) body t ∧ t (L2.start N vs) H Q) :
    CalE P w K mg base CX (k + 1) (fun H => H f = some (LamO f c' q params body scope) ∧ H c' = some (LamX.CodeO c' q)) f sp := by
  refine ⟨fun h H _ hok ⟨hf, _⟩ => ?_, fun A outer s H us vs Q E hc hr e0 r ⟨hf, hcd⟩ q => ?_⟩
  · obtain ⟨⟨pm, ctv, e⟩, _, _⟩ := hok f _ hf
    exact ⟨_, _, _, _, e⟩
  obtain ⟨⟨pm, ctv, hof⟩, _, _⟩ := e0.hok f _ hf
  obtain ⟨⟨oc, vc, t, hoc, hdc, hvc⟩, _, _⟩ := e0.hok c' _ hcd
  have bk : ∀ b o, base.get? b = some o → s.heap.get? b = some o := fun b o e => (e0.bs b o e).1
  have hl := len _ _ _ _ q
  have hul : us.length = ps.length := by rw [← r.length, hl]
  have hkind : ∀ y ∈ ps.zip us, scope.names.lookup y.1 = some .local ∨ (scope.names.lookup y.1 = some .cell ∧ ((cellsFrom (s.heap.objs.size + 1) scope.names []).lookup y.1).isSome = true) := by
    rintro ⟨n, v⟩ hy
    exact (S.par n (List.of_mem_zip hy).1).imp id fun q => ⟨q, PySem.W.cellsFrom_some _ _ _ (.inl q)⟩
  refine PySem.W.kla_callFunE hr.depth hof rfl S.co S.gen rfl ⟨c', oc, vc, t, rfl, hoc, hdc, hvc⟩ ?_
  rw [hb pm ctv us hul]
  refine wpAny_pure (wpAny_newFunctionEnv_cells S.kind hkind ?_)
  intro env he s1 x
  subst he
  refine ⟨(e0.mod.nolimit.keeps bk).keeps x.toInCall.keep, PySem.W.kla_codeExpr ?_⟩
  obtain ⟨t, ht, hq⟩ := hbody A outer s H vs Q E hc (hr.deeper _) q
  have J := inv_start (CX := CX) (E := E) S hr.hd e0 hl r x
  refine wpAny_mono (ht.run [] s1 _ H Q J hq) (fun u s' hs => ?_) fun _ _ z => z
  obtain ⟨v, H', J', rv, q⟩ := hs
  exact ⟨v, H', J'.os, J'.bare, J'.base, J'.hok, rv, q⟩
theorem pe_callCE {X : Cx} {CX : CXT} {E : L2.St → XK} {k i : Nat} {G : Hp → Prop} {f : Addr} {sp : Sp} {x : Str} {p pos : Pos} {e : Expr} {es : List Expr} {t : TA} (C : CalE X.prog X.w X.K X.mg X.base CX k G f sp) (hc : Clean X.A) (hr : Room k X.A) (hN : X.N[i]? = some x) (hv : Vis X.env.scope x)
    (hx : ∀ σ, PassesAt CX X σ (E σ)) (ha : PA X (e :: es) t) (hdb : (x == ("__debug__" : Str)) = false := by decide) (hcd : (x == ("__classdict__" : Str)) = false := by decide)
    (he : starEach (e :: es) X.env = (false, eval e X.env) :: starEach es X.env := by rfl) (hpl : (backTo pos (starEach es X.env)).any (·.1) = false := by rfl) :
    PE X (.Call (.Name x p) (e :: es) [] pos) (fun σ H Q => σ[i]? = some (some (.ref f)) ∧ G H ∧ t σ H fun vs H1 => G H1 ∧ sp vs H1 Q (E σ)) := by
  refine ⟨fun pn s σ H Q I ⟨hs, g, ht⟩ => ?_⟩
  refine wpAny_Call_Name_kw (thn ((pe_var (pos := p) hN hv hdb hcd).run pn s σ H (fun v H1 => v = .ref f ∧ H1 = H) I ⟨.ref f, hs, rfl, rfl⟩) ?_)
  rintro u s1 ⟨_, _, I1, r1, rfl, rfl⟩
  obtain rfl : u = .ref f := r1
  refine PySem.W.callWith_F (C.fn _ _ I1.kIn I1.hok g) (thn (ha.run pos pn s1 σ _ _ I1 ht) ?_) he hpl
  rintro us s2 ⟨vs, H2, I2, r, g2, q⟩
  exact ⟨C.fn _ _ I2.kIn I2.hok g2, wpAny_call (codeAny_mono (C.run X.A X.stack s2 H2 us vs Q (E σ) hc hr I2.env0 r g2 q) fun r s' hq => endC (hx σ) I2 hq)⟩
end Gd

set_option maxHeartbeats 1000000
namespace KT
open PySem L2 Gd KM
def spNoT (K : PySem.W.Frag) (C : Addr) : Sp := fun vs H _ E => ∃ (v : V) (d : PyData), vs = [v] ∧ Db K H v d ∧ (∀ x, d ≠ .str x) ∧ ∀ e H', Same H H' → H' e = none → E (.ref C) (some e) (upd H' e (.xd [("value", v)]))
def spRaised (P : Program) (w : World) (K : PySem.W.Frag) (mg : Str → Option Value) (base : Heap) (C_T C_Y : Addr) : Sp := fun vs H Q _ => ∃ (f2 : Addr) (G : Hp → Prop) (v : V), vs = [.ref f2, v] ∧ G H ∧
  ((CalE P w K mg base (L2.CX P w) 134 G f2 (spNoB K C_T) ∧ ∃ (d : PyData) (n : Nat), Db K H v d ∧ TB n d 0 20 false ∧ n < 128 ∧ ∀ l H', Same H H' → H l = none → H' l = some (.lst [.str "tree", v]) → Q (.ref l) H') ∨
   (CalE P w K mg base (L2.CX P w) 134 G f2 (spNoT K C_Y) ∧ ∃ d : PyData, Db K H v d ∧ (∀ x, d ≠ .str x) ∧ ∀ l H', Same H H' → H l = none → H' l = some (.lst [.str "text", v]) → Q (.ref l) H'))
theorem same_xd {H H' : Hp} {d : Addr} {o : HO} (s : Same H H') (hd : H' d = none) : Same H (upd H' d o) := s.trans (same_new hd)
theorem free_xd {H H' : Hp} {d p : Addr} {o : HO} (s : Same H H') (h : upd H' d o p = none) (hd : H' d = none) : H p = none := gnone (s.trans (same_new hd)) h
/-- what the two classes are to each other -/
structure Uni (K : PySem.W.Frag) (C_T C_Y : Addr) : Prop where
  at' : PySem.W.exmAny K (.ref C_T) [.ref C_T, .ref C_Y] = some true
  ay : PySem.W.exmAny K (.ref C_Y) [.ref C_T, .ref C_Y] = some true
  kt : PySem.W.kitOne K (.ref C_T) (.ref C_Y) = some false
  ky : PySem.W.kitOne K (.ref C_Y) (.ref C_Y) = some true
  xt : ExcT K C_T
  xy : ExcT K C_Y
section
variable {P : Program} {w : World} {K : PySem.W.Frag} {mg : Str → Option Value} {base : Heap} {aS aL C_T f_T C_Y f_Y : Addr} {es : Array DictEntry} {n : Nat}
abbrev s_law_raised : Stmt := top 52
theorem sc_law_raised : FnScope ["_law_ask", "_law_value", "e"] ["_law_ask", "_law_value"] (defScope s_law_raised) := ⟨rfl, rfl, rfl, by decide +kernel, rfl, by decide +kernel, by decide +kernel⟩
theorem ok_raised {f : Addr} {fd : FuncData} (F : Fun K "_law_raised" "_law_raised" s_law_raised f fd) (T : Txt w K mg base aS aL es n) (TE : PySem.EzValue.LowTxt K mg "InvalidTree" "InvalidTree.__init__" C_T f_T) (TY : PySem.EzValue.LowTxt K mg "InvalidText" "InvalidText.__init__" C_Y f_Y) (U : Uni K C_T C_Y) :
    FnG P w K mg base CX0 135 f fd ["_law_ask", "_law_value"] (spRaised P w K mg base C_T C_Y) := by
  refine okG F sc_law_raised (fun vs H Q E h => ?_) (fun cdv A outer s H vs Q E hc hr h => ?_)
  · obtain ⟨f2, G, v, rfl, _⟩ := h
    rfl
  obtain ⟨f2, G, v, rfl, g, h⟩ := h
  have z2 : 2 ≤ sizeLine := by decide
  rcases h with ⟨CE, d, n, hd, tb, hn, q⟩ | ⟨CE, d, hd, no, q⟩
  · refine ⟨_, (pss_one (ps_tryTwo (i := 2) rfl rfl sc_law_raised.nd rfl rfl ⟨rfl, by decide, .inl TE.gC⟩ ⟨rfl, by decide, .inl TY.gC⟩ (fun W pn xe tk _ => (pss_cons (ps_expr (pe_callCE (i := 0) CE hc (hr.mono (by omega)) rfl (.inl rfl) (fun σ => passAt tk σ) (pa_cons (pv 1) pa_nil)))
 (pss_one (ps_ret pe_str)))) (fun a oe cls d pn hz hf => (pss_one (ps_ret (pe_lst (pa_cons (pe_ifExp (pt_val (pe_callB (call_isS hz hf) (by rfl) T.z_isinstance (by decide +kernel) (pa_cons (pv 2) (pa_cons (pe_k (by rfl) ⟨_, TY.gC, (show RelV (.ref C_Y) (.ref C_Y) from rfl)⟩) pa_nil)))) pe_str pe_str) (pa_cons (pe_by2 TE TY hz hf (pv 2)) pa_nil)))))))), ?_⟩
    refine ⟨rfl, g, _, rfl, g, v, d, n, rfl, hd, tb, hn, fun e H1 s1 he => ?_⟩
    refine ⟨U.at', fun a ha => ?_⟩
    refine ⟨_, rfl, _, _, _, _, _, rfl, rfl, rfl, upd_same, U.xt, U.kt, _, rfl, iteF ?_⟩
    exact ⟨_, rfl, rfl, .inl rfl, e, v, rfl, upd_same, z2, fun p hp => q p _ ((same_xd s1 he).trans (same_new hp)) (free_xd s1 hp he) upd_same⟩
  · refine ⟨_, (pss_one (ps_tryTwo (i := 2) rfl rfl sc_law_raised.nd rfl rfl ⟨rfl, by decide, .inl TE.gC⟩ ⟨rfl, by decide, .inl TY.gC⟩ (fun W pn xe tk _ => (pss_cons (ps_expr (pe_callCE (i := 0) CE hc (hr.mono (by omega)) rfl (.inl rfl) (fun σ => passAt tk σ) (pa_cons (pv 1) pa_nil)))
 (pss_one (ps_ret pe_str)))) (fun a oe cls d pn hz hf => (pss_one (ps_ret (pe_lst (pa_cons (pe_ifExp (pt_val (pe_callB (call_isS hz hf) (by rfl) T.z_isinstance (by decide +kernel) (pa_cons (pv 2) (pa_cons (pe_k (by rfl) ⟨_, TY.gC, (show RelV (.ref C_Y) (.ref C_Y) from rfl)⟩) pa_nil)))) pe_str pe_str) (pa_cons (pe_by2 TE TY hz hf (pv 2)) pa_nil)))))))), ?_⟩
    refine ⟨rfl, g, _, rfl, g, v, d, rfl, hd, no, fun e H1 s1 he => ?_⟩
    refine ⟨U.ay, fun a ha => ?_⟩
    refine ⟨_, rfl, _, _, _, _, _, rfl, rfl, rfl, upd_same, U.xy, U.ky, _, rfl, iteT ?_⟩
    exact ⟨_, rfl, rfl, .inr rfl, e, v, rfl, upd_same, z2, fun p hp => q p _ ((same_xd s1 he).trans (same_new hp)) (free_xd s1 hp he) upd_same⟩
end
end KT

set_option maxHeartbeats 4000000
namespace Gd
open PySem PySem.Spec PyProof.Rows L2 LamX
/-! ### the end of a law whose defs make lambdas: their tables of code objects are tracked -/
abbrev tab0 : Obj := { cls := .none, data := .fields #[] }
section
variable {P : Program} {w : World} {K : PySem.W.Frag} {mg mb : Str → Option Value} {CX : CXT} {k : Nat} {fa a : Addr} {fd : FuncData} {x : Str} {sp : Sp} {s : Shared} {vs : List Value} {ns : List Int} {cs : List (Addr × Addr)}
/-- the module of the builtins, as the head leaves it -/
abbrev BMain (mg : Str → Option Value) (h : Heap) : Prop := ∃ (bm : Addr) (ob : Obj), mg "__builtins__" = some (.ref bm) ∧ bm ≠ builtinsNs ∧ h.get? bm = some ob ∧ ob.cls = .type "module" ∧ ob.dict = some builtinsNs ∧ ob.data = .plain
theorem coreT (KX : K.In s.heap) (hns : s.heap.Ns mainGlobals mg) (hb : s.heap.Ns builtinsNs mb) (hbb : ∀ x : Str, x ≠ "__name__" → mb x = bootBuiltins x) (hlim : s.heap.NoLimit) (hsy : ∃ mm, s.heap.Ns sysModules mm) (hg : s.gens = #[])
    (hT : ∀ p ∈ cs, s.heap.get? p.2 = some tab0) (nT : ∀ p ∈ cs, K.lookup p.2 = none) (hC : ∀ p ∈ cs, PySem.W.CodeHd s.heap p.1 p.2) (hM : BMain mg s.heap)
    (ha : s.heap.get? a = some (scriptObj vs)) (hr : Room k callerA)
    (F : ∀ base : Heap, K.In base → base.Ns mainGlobals mg → SysIn base → (∀ p ∈ cs, TabB base mg p.1 p.2) → FnG P w K mg base CX k fa fd [x] sp) (hbind : ∀ (s : Shared) (u : Value), BindsTo s fd ⟨[u], []⟩ [(x, u)])
    (H : Hp) (hO : ∀ b, H b = none ∨ b ∈ cs.map (·.2) ∨ ∃ o xs, H b = some (.frz o (.lst xs))) (hok : HOk P w H s.heap) (hA : ∀ b, H b ≠ none → b = a ∨ b ∈ cs.map (·.2)) (hK : H a ≠ none → K.lookup a = none) (hH : ∀ p ∈ cs, H p.2 = some (.tbl #[]))
    (hsp : sp [.ref a] H (fun v _ => v = .bl true) fun _ _ _ => False) (hCX : ∀ e s', CX [] H s (fun _ _ _ => False) e s' → False) :
    codeAny (model P w) callerA (.call (.ref fa) ⟨[.ref a], []⟩) (Done s) s := by
  have tabAt : ∀ b, b ∈ cs.map (·.2) → s.heap.get? b = some tab0 := by
    intro b hb
    obtain ⟨p, hp, rfl⟩ := List.mem_map.mp hb
    exact hT p hp
  -- what is neither the script nor a table is not tracked
  have out : ∀ {b : Addr} {o : Obj}, s.heap.get? b = some o → (∀ z n, o.data ≠ .seq z n) → (∀ z, o.data ≠ .fields z) → H b = none := by
    intro b o e d1 d2
    refine Classical.byContradiction fun q => ?_
    rcases hA b q with rfl | hb
    · rw [ha] at e
      cases e
      exact d1 _ _ rfl
    · rw [tabAt b hb] at e
      cases e
      exact d2 _ rfl
  have nsA : ∀ {b : Addr} {m : Str → Option Value}, s.heap.Ns b m → (hidT s.heap H).Ns b m := by
    rintro b m ⟨o, es, ep, e, d, r⟩
    exact ⟨o, es, ep, hidT_get e (out e (fun z n q => by rw [d] at q; exact nomatch q) (fun z q => by rw [d] at q; exact nomatch q)), d, r⟩
  have inB : K.In (hidT s.heap H) := fun b o e => hidT_get (KX b o e) (Classical.byContradiction fun q => by
    rcases hA b q with rfl | hb
    · rw [hK q] at e
      exact nomatch e
    · obtain ⟨p, hp, rfl⟩ := List.mem_map.mp hb
      rw [nT p hp] at e
      exact nomatch e)
  have md : Mod K mg (hidT s.heap H) := ⟨inB, nsA hns, ⟨mb, nsA hb, hbb⟩, hlim.imp fun _ h => ⟨nsA h.1, h.2⟩⟩
  have tb : ∀ p ∈ cs, TabB (hidT s.heap H) mg p.1 p.2 := by
    intro p hp
    have e0 := hT p hp
    refine ⟨?_, ?_, fun z => ?_⟩
    · obtain ⟨o, us, fl, tf, gs, tg, nf, tx, tt, e1, r1, r2, r3, r⟩ := hC p hp
      refine ⟨o, us, fl, tf, gs, tg, nf, tx, tt, hidT_get e1 (Classical.byContradiction fun q => ?_), r1, r2, r3, r⟩
      rcases hA p.1 q with z | hb
      · rw [z, ha] at e1
        cases e1
        exact nomatch r2
      · rw [tabAt _ hb] at e1
        cases e1
        exact nomatch r1
    · obtain ⟨bm, ob, b1, b2, b3, b4, b5, b6⟩ := hM
      refine ⟨bm, ob, b1, b2, fun z => ?_, fun z => ?_, hidT_get b3 (out b3 (fun _ _ q => by rw [b6] at q; exact nomatch q) (fun _ q => by rw [b6] at q; exact nomatch q)), b4, b5, b6⟩
      · obtain ⟨o, es, ep, e, d, _⟩ := hns
        rw [z, e] at b3
        cases b3
        rw [d] at b6
        exact nomatch b6
      · rw [z, e0] at b3
        cases b3
        exact nomatch b6
    · obtain ⟨o, es, ep, e, d, _⟩ := hns
      rw [z, e0] at e
      cases e
      exact nomatch d
  have e0 : Env0 P w K mg (hidT s.heap H) callerA [] s H :=
    ⟨rfl, md, fun b o e => of_hidT e, Nat.le_of_eq (hidT_size _ _), trivial, fun _ hb => absurd hb List.not_mem_nil, hok, .of_eq hg⟩
  have R := (F _ inB (nsA hns) (let ⟨_, q⟩ := hsy; let ⟨o, _, _, e, _⟩ := nsA q; ⟨o, e⟩) tb).run callerA [] s H ⟨[.ref a], []⟩ [.ref a] [.ref a] _ _ rfl hr e0 (hbind s (.ref a)) (.cons rfl .nil) hsp
  refine codeAny_mono R fun r s' h => ?_
  match r, h with
  | .error e, h => exact (hCX e s' h).elim
  | .ok .next, h => exact False.elim h
  | .ok .brk, h => exact False.elim h
  | .ok .cont, h => exact False.elim h
  | .ok (.ret u), ⟨v, H', os, bare, un, hok', r', q⟩ =>
    have q' : v = .bl true := q
    subst q'
    cases (show u = Value.bool true from r')
    have plain : ∀ b o, b ∉ cs.map (·.2) → s.heap.get? b = some o → s'.heap.get? b = some o := by
      intro b o nb e
      cases hb : H b with
      | none => exact un.keep b o e hb List.not_mem_nil (by simp)
      | some u =>
        rcases hO b with z | z | ⟨ob, xs, z⟩
        · rw [hb] at z
          exact nomatch z
        · exact absurd z nb
        · have e1 := (hok b _ z).1
          have e2 := (hok' b _ (un.frzs b ob _ z)).1
          rw [e] at e1
          cases e1
          exact e2
    have grown : ∀ b, b ∈ cs.map (·.2) → ∃ more : Array Value, s'.heap.get? b = some { cls := .none, data := .fields more } := by
      intro b hb
      obtain ⟨p, hp, rfl⟩ := List.mem_map.mp hb
      obtain ⟨more, z⟩ := un.tbls p.2 #[] (hH p hp)
      exact ⟨_, hok' p.2 _ z⟩
    refine ⟨rfl, ⟨fun b o e => ?_, fun b o e => ?_⟩, os, bare⟩
    · by_cases nb : b ∈ cs.map (·.2)
      · obtain ⟨more, hm⟩ := grown b nb
        obtain ⟨p, hp, rfl⟩ := List.mem_map.mp nb
        rw [hT p hp] at e
        cases e
        exact .inr (.inl ⟨((hC p hp).tab (hT p hp)).isCodeTable, rfl, #[], more, rfl, by rw [Array.empty_append]; exact hm⟩)
      · exact .inl (plain b o nb e)
    · by_cases nb : b ∈ cs.map (·.2)
      · obtain ⟨more, hm⟩ := grown b nb
        exact ⟨_, hm⟩
      · exact ⟨o, plain b o nb e⟩
theorem callT (KX : K.In s.heap) (hns : s.heap.Ns mainGlobals mg) (hb : s.heap.Ns builtinsNs mb) (hbb : ∀ x : Str, x ≠ "__name__" → mb x = bootBuiltins x) (hlim : s.heap.NoLimit) (hsy : ∃ mm, s.heap.Ns sysModules mm) (hg : s.gens = #[])
    (hT : ∀ p ∈ cs, s.heap.get? p.2 = some tab0) (nT : ∀ p ∈ cs, K.lookup p.2 = none) (hC : ∀ p ∈ cs, PySem.W.CodeHd s.heap p.1 p.2) (hM : BMain mg s.heap)
    (ha : s.heap.get? a = some (scriptObj vs)) (hi : IntsAre vs ns) (hl : ns.length ≤ sizeLine) (hr : Room k callerA)
    (F : ∀ base : Heap, K.In base → base.Ns mainGlobals mg → SysIn base → (∀ p ∈ cs, TabB base mg p.1 p.2) → FnG P w K mg base CX k fa fd [x] sp) (hbind : ∀ (s : Shared) (u : Value), BindsTo s fd ⟨[u], []⟩ [(x, u)])
    (hsp : ∀ H : Hp, (∀ p ∈ cs, H p.2 = some (.tbl #[])) → SqL K H a (ns.map V.int) → sp [.ref a] H (fun v _ => v = .bl true) fun _ _ _ => False) (hCX : ∀ H e s', CX [] H s (fun _ _ _ => False) e s' → False) :
    codeAny (model P w) callerA (.call (.ref fa) ⟨[.ref a], []⟩) (Done s) s := by
  have rv := vals_ints hi
  have lenV := hi.length
  have aT : a ∉ cs.map (·.2) := by
    intro z
    obtain ⟨p, hp, e⟩ := List.mem_map.mp z
    have q := hT p hp
    rw [e, ha] at q
    exact nomatch (congrArg Obj.data (Option.some.inj q) : Data.seq vs.toArray _ = Data.fields #[])
  have mem : ∀ p ∈ cs, p.2 ∈ cs.map (·.2) := fun p hp => List.mem_map.mpr ⟨p, hp, rfl⟩
  let T : Hp := fun b => if b ∈ cs.map (·.2) then some (.tbl #[]) else none
  have Tt : ∀ b, b ∈ cs.map (·.2) → T b = some (.tbl #[]) := fun b hb => if_pos hb
  have Tn : ∀ b, b ∉ cs.map (·.2) → T b = none := fun b hb => if_neg hb
  have okT : ∀ b u, T b = some u → b ∈ cs.map (·.2) ∧ u = .tbl #[] := by
    intro b u z
    by_cases hb : b ∈ cs.map (·.2)
    · rw [Tt b hb] at z
      exact ⟨hb, (Option.some.inj z).symm⟩
    · rw [Tn b hb] at z
      exact nomatch z
  have tabOk : ∀ (H : Hp) b, b ∈ cs.map (·.2) → ObjOk P w H s.heap b (.tbl #[]) := by
    intro H b hb
    obtain ⟨p, hp, rfl⟩ := List.mem_map.mp hb
    exact hT p hp
  cases hk : K.lookup a with
  | some o =>
    have e := KX a o hk
    rw [ha] at e
    cases e
    refine coreT KX hns hb hbb hlim hsy hg hT nT hC hM ha hr F hbind T (fun b => ?_) (fun b u z => ?_) (fun b z => ?_) (fun z => absurd (Tn a aT) z) (fun p hp => Tt _ (mem p hp)) ?_ (hCX _)
    · exact (Classical.em (b ∈ cs.map (·.2))).elim (fun h => .inr (.inl h)) (fun h => .inl (Tn b h))
    · obtain ⟨h1, rfl⟩ := okT b u z
      exact tabOk _ b h1
    · exact (Classical.em (b ∈ cs.map (·.2))).elim .inr (fun h => absurd (Tn b h) z)
    · exact hsp _ (fun p hp => Tt _ (mem p hp)) (.inr ⟨_, vs.toArray, _, hk, rfl, rfl, rfl, by rw [List.size_toArray, lenV]; exact hl, by simpa using rv⟩)
  | none =>
    have ne : ∀ b, b ∈ cs.map (·.2) → b ≠ a := fun b hb z => aT (z ▸ hb)
    have up : ∀ b, b ∈ cs.map (·.2) → upd T a (.frz (scriptObj vs) (.lst (ns.map V.int))) b = some (.tbl #[]) := fun b hb => by rw [upd_ne (ne b hb)]; exact Tt b hb
    refine coreT KX hns hb hbb hlim hsy hg hT nT hC hM ha hr F hbind (upd T a (.frz (scriptObj vs) (.lst (ns.map V.int)))) (fun b => ?_) (fun b u z => ?_) (fun b z => ?_) (fun _ => hk) (fun p hp => up _ (mem p hp)) ?_ (hCX _)
    · by_cases hb : b = a
      · subst hb
        exact .inr (.inr ⟨_, _, upd_same⟩)
      · rw [upd_ne hb]
        exact (Classical.em (b ∈ cs.map (·.2))).elim (fun h => .inr (.inl h)) (fun h => .inl (Tn b h))
    · by_cases hb : b = a
      · subst hb
        rw [upd_same] at z
        cases z
        exact ⟨ha, by rw [List.length_map]; exact hl, vs, _, rv, ha⟩
      · rw [upd_ne hb] at z
        obtain ⟨h1, rfl⟩ := okT b u z
        exact tabOk _ b h1
    · by_cases hb : b = a
      · exact .inl hb
      · rw [upd_ne hb] at z
        exact (Classical.em (b ∈ cs.map (·.2))).elim .inr (fun h => absurd (Tn b h) z)
    · exact hsp _ (fun p hp => up _ (mem p hp)) (.inl (.inr ⟨scriptObj vs, upd_same⟩))
/-- the defs that make lambdas, by their names, with their code objects and tables -/
def TabsIn (K : PySem.W.Frag) (q : Program) (xs : List (Str × Addr × Addr)) : Prop := ∀ e ∈ xs, PySem.W.tabIn K e.1 = some e.2 ∧ K.lookup e.2.2 = none ∧ ((PyProof.Rows.recsOf q).find? fun d => d.name == e.1).isSome = true
theorem walkT {l : PySem.W.OpenLaw} {n k : Nat} {q : Program} {loose : List Str} {XP : (Str → Option Value) → Heap → Prop} {YP : World → Heap → Prop} {d : DefRec} {K : Params → PySem.W.Frag} {CX : World → CXT} {sp : World → List (Addr × Addr) → Sp} {x : Str}
    (hn : l.most = some n) (hn2 : n ≤ sizeLine) (hdf : d.params.defaults = []) (hr : Room k callerA) (himp : importsNone q = true) (hY : ∀ (w : World) (h : Heap), YP w h → (K w.params).In h)
    (F : ∀ (w : World) (mg : Str → Option Value) (fa : Addr) (h : Heap), (K w.params).In h → h.Ns mainGlobals mg → mg d.name = some (.ref fa) → ∃ xs : List (Str × Addr × Addr), TabsIn (K w.params) q xs ∧
      ∃ fd : FuncData, (∀ (s : Shared) (u : Value), BindsTo s fd ⟨[u], []⟩ [(x, u)]) ∧
        ∀ base : Heap, (K w.params).In base → base.Ns mainGlobals mg → SysIn base → (∀ e ∈ xs, TabB base mg e.2.1 e.2.2) → FnG l.prog w (K w.params) mg base (CX w) k fa fd [x] (sp w (xs.map (·.2))))
    (hsp : ∀ (w : World) (cs : List (Addr × Addr)) (H : Hp) (a : Addr) (ns : List Int), ns.length ≤ n → (∀ p ∈ cs, H p.2 = some (.tbl #[])) → SqL (K w.params) H a (ns.map V.int) → sp w cs [.ref a] H (fun v _ => v = .bl true) fun _ _ _ => False)
    (hCX : ∀ (w : World) (H : Hp) (s : Shared) (e : Value) (s' : Shared), CX w [] H s (fun _ _ _ => False) e s' → False) :
    PySem.W.WalkO q loose XP YP l.row.toRowW d [] (fun f vs => PySem.call f vs) := by
  refine Att.attach_call hn hdf fun w s₀ s₁ mg mb fa o pm cd doc a vs ns G Y ho hd hcd hmg hobj hints hlen hg => ?_
  have KX := hY w _ Y
  obtain ⟨xs, hx, fd, hb, hF⟩ := F w mg fa _ KX G.T.g hmg
  have tabs : ∀ p ∈ xs.map (·.2), PySem.W.CodeHd s₁.heap p.1 p.2 ∧ s₁.heap.get? p.2 = some tab0 := by
    intro p hp
    obtain ⟨e, he, rfl⟩ := List.mem_map.mp hp
    obtain ⟨h1, _, h3⟩ := hx e he
    obtain ⟨dr, hdr⟩ := Option.isSome_iff_exists.mp h3
    exact PySem.W.tab_of G.T KX hdr h1
  refine callT (cs := xs.map (·.2)) KX G.T.g G.T.b G.T.builtins G.T.nolimit (let ⟨mm, q, _⟩ := (G.T.seer himp).mods; ⟨mm, q⟩) hg (fun p hp => (tabs p hp).2) (fun p hp => ?_) (fun p hp => (tabs p hp).1) G.T.bmain hobj hints (Nat.le_trans hlen hn2) hr
    (fun base h1 h2 h3 h4 => hF base h1 h2 h3 fun e he => h4 e.2 (List.mem_map.mpr ⟨e, he, rfl⟩)) hb (fun H hH hS => hsp w _ H a ns hlen hH hS) fun H e s' => hCX w H s₁ e s'
  obtain ⟨e, he, rfl⟩ := List.mem_map.mp hp
  exact (hx e he).2.1
end
end Gd

set_option maxHeartbeats 1000000
namespace KT
open PySem L2 Gd KM LamX
section
variable {K : PySem.W.Frag} {H H' : Hp}
mutual
theorem Db.ext (e : ExtN H H') : ∀ {v : V} {d : PyData}, Db K H v d → Db K H' v d
  | _, _, .non => .non
  | _, _, .bl b => .bl b
  | _, _, .int i => .int i
  | _, _, .str x => .str x
  | _, _, .lst h r => .lst (e _ _ h fun _ z => nomatch z) (DbL.ext e r)
  | _, _, .tup h r => .tup (e _ _ h fun _ z => nomatch z) (DbL.ext e r)
  | _, _, .dct h r => .dct (e _ _ h fun _ z => nomatch z) (DbL.ext e r)
  | _, _, .dcT h r => .dcT (e _ _ h fun _ z => nomatch z) (DbL.ext e r)
theorem DbL.ext (e : ExtN H H') : ∀ {vs : List V} {ds : List PyData}, DbL K H vs ds → DbL K H' vs ds
  | _, _, .nil => .nil
  | _, _, .cons h r => .cons (Db.ext e h) (DbL.ext e r)
end
theorem wof_ext {p : Addr} (s : ExtN H H') : ExtN (wof p H) (wof p H') := fun b o h n => by
  unfold wof at h ⊢
  by_cases e : b = p
  · rw [if_pos e] at h; exact nomatch h
  · rw [if_neg e] at h ⊢
    exact s b o h n
theorem Top.ext {v : V} {d : PyData} (s : ExtN H H') : Top K H v d → Top K H' v d
  | .inl h => .inl h
  | .inr (.inl h) => .inr (.inl h)
  | .inr (.inr (.inl ⟨a, xs, ds, e, h, e2, hl⟩)) => .inr (.inr (.inl ⟨a, xs, ds, e, s _ _ h (fun _ z => nomatch z), e2, DbL.ext (wof_ext s) hl⟩))
  | .inr (.inr (.inr ⟨a, e, h, e2⟩)) => .inr (.inr (.inr ⟨a, e, s _ _ h (fun _ z => nomatch z), e2⟩))
end
theorem room230 {k : Nat} {A : Around} (r : Room k A) (h : 2 ≤ k) : A.units + 230 < cLine := by
  have := r.un
  omega
def noE : Expr := .Name "_" ⟨0, 0, 0, 0⟩
def lArgs : Expr → Arguments
  | .Lambda a _ _ _ => a
  | _ => .mk [] [] none [] [] none []
def lBody : Expr → Expr
  | .Lambda _ b _ _ => b
  | _ => noE
def lScope : Expr → Scope
  | .Lambda _ _ s _ => s
  | _ => { kind := .function, names := [], isGenerator := false, isCoroutine := false }
abbrev qL : Str := "_law_refused.<locals>.<lambda>"
section
variable {P : Program} {w : World} {K : PySem.W.Frag} {mg : Str → Option Value} {base : Heap} {aS aL C_T f_T C_Y f_Y : Addr} {es : Array DictEntry} {n : Nat}
abbrev s_law_refused : Stmt := top 53
theorem sc_law_refused : FnScope ["_law_value", "_law_kept", "_law_asks", "_law_ask", "_law_found"] ["_law_value"] (defScope s_law_refused) := ⟨rfl, rfl, rfl, by decide +kernel, rfl, by decide +kernel, by decide +kernel⟩
abbrev eL1 : Expr := match defBody s_law_refused with
  | [_, _, _, .For _ (.BinOp _ _ (.List [a, _] _) _) _ _ _, _] => a
  | _ => noE
abbrev eL2 : Expr := match defBody s_law_refused with
  | [_, _, _, .For _ (.BinOp _ _ (.List [_, a] _) _) _ _ _, _] => a
  | _ => noE
theorem scL1 : FnScope ["_law_tree_here"] ["_law_tree_here"] (lScope eL1) := ⟨rfl, rfl, rfl, by decide +kernel, rfl, by decide +kernel, by decide +kernel⟩
theorem scL2 : FnScope ["_law_one"] ["_law_one"] (lScope eL2) := ⟨rfl, rfl, rfl, by decide +kernel, rfl, by decide +kernel, by decide +kernel⟩
def gL (e : Expr) (f c : Addr) (H : Hp) : Prop := H f = some (LamO f c qL (lArgs e) (lBody e) (lScope e)) ∧ H c = some (CodeO c qL)
theorem cal1 {f c' f1 : Addr} {fd1 : FuncData} (D_with_names : Df P w K mg base (L2.CX P w) 133 "with_names" f1 fd1 ["tree", "table"] (spNoW K C_T)) : CalE P w K mg base (L2.CX P w) 134 (gL eL1 f c') f (spNoB K C_T) := by
  refine CalE.lam scL1 (fun pm ctv us hl => match us, hl with | [_], _ => rfl) (fun vs H Q E h => ?_) (fun A outer s H vs Q E hc hr h => ?_)
  · obtain ⟨v, d, n, rfl, _⟩ := h
    rfl
  obtain ⟨v, d, n, rfl, hd, tb, hn, q⟩ := h
  refine ⟨_, pe_d D_with_names hc (hr.mono (by omega)) (by rfl) (fun σ => passAt (takes_of rfl rfl rfl rfl) σ) (pa_cons (pv 0) (pa_cons pe_dnewK pa_nil)), ?_⟩
  refine ⟨_, rfl, fun p hp => ⟨v, .ref p, d, n, rfl, hd.same (same_new hp), tb, hn, fun e H' s he => q e H' ((same_new hp).trans s) he⟩⟩
theorem cal2 {f c' f1 : Addr} {fd1 : FuncData} (D_with_names : Df P w K mg base (L2.CX P w) 133 "with_names" f1 fd1 ["tree", "table"] (spNoW K C_T)) : CalE P w K mg base (L2.CX P w) 134 (gL eL2 f c') f (spNoB K C_T) := by
  refine CalE.lam scL2 (fun pm ctv us hl => match us, hl with | [_], _ => rfl) (fun vs H Q E h => ?_) (fun A outer s H vs Q E hc hr h => ?_)
  · obtain ⟨v, d, n, rfl, _⟩ := h
    rfl
  obtain ⟨v, d, n, rfl, hd, tb, hn, q⟩ := h
  refine ⟨_, pe_d D_with_names hc (hr.mono (by omega)) (by rfl) (fun σ => passAt (takes_of rfl rfl rfl rfl) σ) (pa_cons (pv 0) (pa_cons pe_int pa_nil)), ?_⟩
  exact ⟨_, rfl, v, .int 7, d, n, rfl, hd, tb, hn, q⟩
end
end KT

namespace KT
open PySem L2 Gd KM LamX
def isLsD : PyData → Bool
  | .list _ => true
  | _ => false
def isDcD : PyData → Bool
  | .dict _ => true
  | _ => false
section
variable {K : PySem.W.Frag} {H : Hp} {v : V} {d : PyData}
theorem _root_.Gd.Db.listd (h : Db K H v d) : inst "list" (kind H v) = isLsD d := by
  cases h with
  | lst e _ => show inst "list" (kindO (H _)) = true; rw [e]; show inst "list" Gd.Kind.lst = true; decide +kernel
  | tup e _ => show inst "list" (kindO (H _)) = false; rw [e]; show inst "list" Gd.Kind.tup = false; decide +kernel
  | dct e _ => show inst "list" (kindO (H _)) = false; rw [e]; show inst "list" Gd.Kind.dct = false; decide +kernel
  | dcT e _ => show inst "list" (kindO (H _)) = false; rw [e]; show inst "list" Gd.Kind.dct = false; decide +kernel
  | non => show inst "list" Gd.Kind.non = false; decide +kernel
  | bl b => show inst "list" Gd.Kind.bl = false; decide +kernel
  | int i => show inst "list" Gd.Kind.int = false; decide +kernel
  | str x => show inst "list" Gd.Kind.str = false; decide +kernel
theorem _root_.Gd.Db.dictd (h : Db K H v d) : inst "dict" (kind H v) = isDcD d := by
  cases h with
  | lst e _ => show inst "dict" (kindO (H _)) = false; rw [e]; show inst "dict" Gd.Kind.lst = false; decide +kernel
  | tup e _ => show inst "dict" (kindO (H _)) = false; rw [e]; show inst "dict" Gd.Kind.tup = false; decide +kernel
  | dct e _ => show inst "dict" (kindO (H _)) = true; rw [e]; show inst "dict" Gd.Kind.dct = true; decide +kernel
  | dcT e _ => show inst "dict" (kindO (H _)) = true; rw [e]; show inst "dict" Gd.Kind.dct = true; decide +kernel
  | non => show inst "dict" Gd.Kind.non = false; decide +kernel
  | bl b => show inst "dict" Gd.Kind.bl = false; decide +kernel
  | int i => show inst "dict" Gd.Kind.int = false; decide +kernel
  | str x => show inst "dict" Gd.Kind.str = false; decide +kernel
theorem len_wid : ∀ ds : List PyData, ds.length ≤ widL ds
  | [] => Nat.le_refl _
  | d :: ds => by
    have := len_wid ds
    show ds.length + 1 ≤ wid d + 2 + widL ds
    omega
theorem _root_.Gd.DbL.app : ∀ {vs ws : List V} {ds es : List PyData}, DbL K H vs ds → DbL K H ws es → DbL K H (vs ++ ws) (ds ++ es)
  | _, _, _, _, .nil, r => r
  | _, _, _, _, .cons h t, r => .cons h (t.app r)
theorem widL_app : ∀ xs ys : List PyData, widL (xs ++ ys) = widL xs + widL ys
  | [], ys => (Nat.zero_add _).symm
  | x :: xs, ys => by
    show wid x + 2 + widL (xs ++ ys) = wid x + 2 + widL xs + widL ys
    rw [widL_app xs ys]
    omega
theorem okL_app : ∀ {xs ys : List PyData}, OkL xs → OkL ys → OkL (xs ++ ys)
  | [], _, _, h => h
  | _ :: _, _, h, g => ⟨h.1, okL_app h.2 g⟩
theorem dpL_app : ∀ {xs ys : List PyData} {n : Nat}, PyData.depthAll xs ≤ n → PyData.depthAll ys ≤ n → PyData.depthAll (xs ++ ys) ≤ n
  | [], _, _, _, h => h
  | x :: xs, ys, n, h, g => by
    have h : max x.depth (PyData.depthAll xs) ≤ n := h
    have := dpL_app (xs := xs) (ys := ys) (n := n) (by omega) g
    show max x.depth (PyData.depthAll (xs ++ ys)) ≤ n
    omega
end
/-- what is told of a pair of a word and a value -/
theorem two_ok {d : PyData} (ok : Ok1 d) : Ok1 (.list [.str "tree", d]) := ⟨(by decide +kernel : ∀ z ∈ (("tree" : Str)).cps.toList, z < 16 ^ 8), ok, trivial⟩
theorem two_wd (d : PyData) : wid (.list [.str "tree", d]) = wid d + 48 := by
  have e : (("tree" : Str)).length = 4 := by decide +kernel
  show (10 * (("tree" : Str)).length + 2) + 2 + (wid d + 2 + 0) + 2 = _
  omega
theorem two_dp (d : PyData) : (PyData.list [.str "tree", d]).depth ≤ d.depth + 1 := by
  show max 0 (max d.depth 0) + 1 ≤ _
  omega
section
variable {P : Program} {w : World} {K : PySem.W.Frag} {mg : Str → Option Value} {base : Heap} {aS aL C_T f_T C_Y f_Y : Addr} {es : Array DictEntry} {n : Nat}
def spRefused (K : PySem.W.Frag) (Pt : Addr) : Sp := fun vs H Q _ => ∃ (v : V) (d : PyData) (n : Nat), vs = [v] ∧ Db K H v d ∧ Top K H v d ∧ TB n d 0 20 false ∧ n < 128 ∧ Ok1 d ∧ wid d ≤ 100000 ∧ d.depth ≤ 200 ∧ TabS H Pt qL ∧ ∀ H', ExtN H H' → TabS H' Pt qL → Q (.bl true) H'
theorem ok_refused {f c Pt f1 f2 f3 f4 f5 f6 : Addr} {fd fd1 fd2 fd3 fd4 fd5 fd6 : FuncData} (F : Fun K "_law_refused" "_law_refused" s_law_refused f fd) (T : Txt w K mg base aS aL es n) (TB : TabB base mg c Pt) (zd : mg "dict" = none) (hcode : fd.code = .ref c)
    (CE2 : CalE P w K mg base (L2.CX P w) 134 (fun _ => True) f2 (spNoB K C_T)) (CE3 : CalE P w K mg base (L2.CX P w) 134 (fun _ => True) f3 (spNoB K C_T)) (CE4 : CalE P w K mg base (L2.CX P w) 134 (fun _ => True) f4 (spNoB K C_T)) (D_with_names : Df P w K mg base (L2.CX P w) 133 "with_names" f5 fd5 ["tree", "table"] (spNoW K C_T))
    (D_is_tree : Df P w K mg base CX0 131 "is_tree" f1 fd1 ["value"] (spIsTreeB K)) (D_expression_text : Df P w K mg base (L2.CX P w) 133 "expression_text" f2 fd2 ["tree"] (spNoB K C_T)) (D_letters_of : Df P w K mg base (L2.CX P w) 133 "letters_of" f3 fd3 ["tree"] (spNoB K C_T)) (D_names_of : Df P w K mg base (L2.CX P w) 133 "names_of" f4 fd4 ["tree"] (spNoB K C_T))
    (D__law_raised : Df P w K mg base CX0 135 "_law_raised" f6 fd6 ["_law_ask", "_law_value"] (spRaised P w K mg base C_T C_Y)) :
    FnG P w K mg base CX0 136 f fd ["_law_value"] (spRefused K Pt) := by
  refine okGc F sc_law_refused (fun vs H Q E h => ?_) hcode (fun A outer s H vs Q E hc hr h => ?_)
  · obtain ⟨v, d, n, rfl, _⟩ := h
    rfl
  obtain ⟨v, d, n, rfl, hd, top, tb, hn, ok, wd, dp, ht, q⟩ := h
  refine ⟨_, (pss_cons (ps_set (i := 1) sc_law_refused.nd rfl (Or.inl rfl) (pe_callB (call_reprB hc T.sys (room230 hr (by omega))) (by rfl) T.z_repr (by decide +kernel) (pa_cons (pv 0) pa_nil)))
 (pss_cons (ps_if (pt_cmpR op_ne (pe_callB (call_reprB hc T.sys (room230 hr (by omega))) (by rfl) T.z_repr (by decide +kernel) (pa_cons (pe_d D_is_tree hc (hr.mono (by omega)) (by rfl) (fun _ => passN) (pa_cons (pv 0) pa_nil)) pa_nil)) pe_str (nomark _))
  (pss_one (ps_ret pe_bl)) pss_nil)
 (pss_cons (ps_set (i := 2) sc_law_refused.nd rfl (Or.inl rfl) (pe_lst (pa_cons (pe_k (by rfl) (defK D_expression_text)) (pa_cons (pe_k (by rfl) (defK D_letters_of)) (pa_cons (pe_k (by rfl) (defK D_names_of)) pa_nil)))))
 (pss_cons (ps_for (passes_of rfl) rfl (pi_list (pe_op op_cat (pv 2) (pe_lst (pa_cons (pe_lam (q := qL) TB (by rfl) (by rfl)) (pa_cons (pe_lam (q := qL) TB (by rfl) (by rfl)) pa_nil))))) (pg_name (i := 3) sc_law_refused.nd rfl (Or.inl rfl))
  (pss_cons (ps_set (i := 4) sc_law_refused.nd rfl (Or.inl rfl) (pe_d D__law_raised hc (hr.mono (by omega)) (by rfl) (fun _ => passN) (pa_cons (pv 3) (pa_cons (pv 0) pa_nil))))
 (pss_cons (ps_if (PW.pt (pw_or (pt_cmpR op_ne (pe_callB (call_reprB hc T.sys (room230 hr (by omega))) (by rfl) T.z_repr (by decide +kernel) (pa_cons (pv 4) pa_nil)) (pe_callB (call_reprB hc T.sys (room230 hr (by omega))) (by rfl) T.z_repr (by decide +kernel) (pa_cons (pe_lst (pa_cons pe_str (pa_cons (pv 0) pa_nil))) pa_nil)) (nomark _)) (pw_or1 (pt_cmpR op_ne (pe_callB (call_reprB hc T.sys (room230 hr (by omega))) (by rfl) T.z_repr (by decide +kernel) (pa_cons (pv 0) pa_nil)) (pv 1) (nomark _)))))
  (pss_one (ps_ret pe_bl)) pss_nil)
 (pss_cons (ps_if (pt_val (pe_callB call_isk (by rfl) T.z_isinstance (by decide +kernel) (pa_cons (pv 0) (pa_cons (pe_bltn (v := .ty "list") (by rfl) T.z_list (by decide +kernel) rfl) pa_nil))))
  (pss_cons (ps_expr (pe_bm PySem.F.plainAttrs_list PySem.F.slot_list_append PySem.F.type_list_append mt_append (pv 0) (pa_cons pe_str pa_nil)))
 (pss_cons (ps_if (pt_cmpR op_ne (pe_callB (call_reprB hc T.sys (room230 hr (by omega))) (by rfl) T.z_repr (by decide +kernel) (pa_cons (pv 4) pa_nil)) (pe_callB (call_reprB hc T.sys (room230 hr (by omega))) (by rfl) T.z_repr (by decide +kernel) (pa_cons (pe_lst (pa_cons pe_str (pa_cons (pv 0) pa_nil))) pa_nil)) (nomark _))
  (pss_one (ps_ret pe_bl)) pss_nil)
 (pss_one (ps_expr (pe_bm0 PySem.F.plainAttrs_list PySem.F.slot_list_pop PySem.F.type_list_pop mt_pop (pv 0)))))) pss_nil)
 (pss_one (ps_if (pt_val (pe_callB call_isk (by rfl) T.z_isinstance (by decide +kernel) (pa_cons (pv 0) (pa_cons (pe_bltn (v := .ty "dict") (by rfl) zd (by decide +kernel) rfl) pa_nil))))
  (pss_cons (ps_asg pe_int (pg_sub (pv 0) pe_str (set_dict (hu_of hr))))
 (pss_cons (ps_if (pt_cmpR op_ne (pe_callB (call_reprB hc T.sys (room230 hr (by omega))) (by rfl) T.z_repr (by decide +kernel) (pa_cons (pv 4) pa_nil)) (pe_callB (call_reprB hc T.sys (room230 hr (by omega))) (by rfl) T.z_repr (by decide +kernel) (pa_cons (pe_lst (pa_cons pe_str (pa_cons (pv 0) pa_nil))) pa_nil)) (nomark _))
  (pss_one (ps_ret pe_bl)) pss_nil)
 (pss_one (ps_expr (pe_dpop1 (pv 0) pe_str ⟨rfl, rfl, rfl, rfl⟩))))) pss_nil))))))
 (pss_one (ps_ret pe_bl)))))), ?_⟩
  have sz := sizeLine_eq
  have showF : (PyData.bool false).shown = "False" := by decide +kernel
  refine ⟨_, rfl, v, d, rfl, hd, ok, by omega, by omega, ?_⟩
  refine ⟨_, rfl, v, d, false, n, rfl, hd, tb, hn, fun H1 s1 => ⟨_, .bool false, rfl, .bl false, trivial, by show 5 ≤ sizeLine; omega, by decide +kernel, ?_⟩⟩
  rw [showF]
  have same : ∀ x : Str, (!decide (V.str x = V.str x)) = false := fun x => by simp
  refine ⟨rfl, _, rfl, iteB (fun c => absurd (c.symm.trans (same _)) (by decide)) (fun _ => ?_)⟩
  refine ⟨by show 3 ≤ sizeLine; omega, fun LA hLA => ?_⟩
  have t1 : TabS (upd H1 LA (.lst [.ref f2, .ref f3, .ref f4])) Pt qL := ht.ext (s1.trans (same_new hLA))
  refine ⟨_, rfl, ⟨t1, fun g1 c1 H2 e2 fr2 t2 nf1 hg1 hc1 => ⟨t2, fun g2 c2 H3 e3 fr3 t3 nf2 hg2 hc2 => ⟨by show 2 ≤ sizeLine; omega, fun LB hLB => ?_⟩⟩⟩⟩
  have hLA3 : H3 LA = some (.lst [.ref f2, .ref f3, .ref f4]) := e3 _ _ (e2 _ _ upd_same fun _ z => nomatch z) fun _ z => nomatch z
  refine ⟨LA, LB, _, _, rfl, rfl, same_new hLB _ _ hLA3, upd_same, by show 3 + 2 ≤ sizeLine; omega, fun L hL => ?_⟩
  have n5 := same_new hL (o := .lst ([V.ref f2, .ref f3, .ref f4] ++ [.ref g1, .ref g2]))
  have x35 : Same H3 (upd (upd H3 LB (.lst [.ref g1, .ref g2])) L (.lst ([V.ref f2, .ref f3, .ref f4] ++ [.ref g1, .ref g2]))) := (same_new hLB).trans n5
  have x5 : ExtN H (upd (upd H3 LB (.lst [.ref g1, .ref g2])) L (.lst ([V.ref f2, .ref f3, .ref f4] ++ [.ref g1, .ref g2]))) := fun b o h z => x35 _ _ (e3 _ _ (e2 _ _ (same_new hLA _ _ (s1 _ _ h)) z) z)
  have t5 := t3.ext x35
  have h5 := upd_same (H := upd H3 LB (.lst [.ref g1, .ref g2])) (a := L) (o := .lst ([V.ref f2, .ref f3, .ref f4] ++ [.ref g1, .ref g2]))
  have q1 : gL eL1 g1 c1 (upd (upd H3 LB (.lst [.ref g1, .ref g2])) L (.lst ([V.ref f2, .ref f3, .ref f4] ++ [.ref g1, .ref g2]))) := ⟨x35 _ _ (e3 _ _ hg1 fun _ z => nomatch z), x35 _ _ (e3 _ _ hc1 codeO_ne)⟩
  have q2 : gL eL2 g2 c2 (upd (upd H3 LB (.lst [.ref g1, .ref g2])) L (.lst ([V.ref f2, .ref f3, .ref f4] ++ [.ref g1, .ref g2]))) := ⟨x35 _ _ hg2, x35 _ _ hc2⟩
  generalize upd (upd H3 LB (.lst [.ref g1, .ref g2])) L (.lst ([V.ref f2, .ref f3, .ref f4] ++ [.ref g1, .ref g2])) = H5 at x5 t5 h5 q1 q2 ⊢
  have hd5 := Db.ext x5 hd
  have top5 := Top.ext x5 top
  have asks : ∀ (i : Nat) (x : V), ([V.ref f2, .ref f3, .ref f4] ++ [.ref g1, .ref g2])[i]? = some x → ∃ (fa : Addr) (G : Hp → Prop), x = .ref fa ∧ CalE P w K mg base (L2.CX P w) 134 G fa (spNoB K C_T) ∧ ∀ H', Same H5 H' → G H' := by
    intro i x hx
    match i, hx with
    | 0, hx => cases hx; exact ⟨_, _, rfl, CE2, fun _ _ => trivial⟩
    | 1, hx => cases hx; exact ⟨_, _, rfl, CE3, fun _ _ => trivial⟩
    | 2, hx => cases hx; exact ⟨_, _, rfl, CE4, fun _ _ => trivial⟩
    | 3, hx => cases hx; exact ⟨_, _, rfl, cal1 (f := g1) (c' := c1) D_with_names, fun _ s => ⟨s _ _ q1.1, s _ _ q1.2⟩⟩
    | 4, hx => cases hx; exact ⟨_, _, rfl, cal2 (f := g2) (c' := c2) D_with_names, fun _ s => ⟨s _ _ q2.1, s _ _ q2.2⟩⟩
    | k + 5, hx => exact nomatch hx
  refine ⟨L, rfl, ⟨_, SqL.of h5⟩, ?_⟩
  refine for_list (K := K) (a := L) (xs := [V.ref f2, .ref f3, .ref f4] ++ [.ref g1, .ref g2]) (fun i σ H' => ∃ o3 o4, σ = [some v, some (.str d.shown), some (.ref LA), o3, o4] ∧ Same H5 H') ⟨none, none, rfl, Same.refl H5⟩ (fun _ _ H' _ ⟨_, _, _, s⟩ => SqL.of (s _ _ h5)) ?_ (fun _ H' ⟨_, _, _, s⟩ => q _ (fun b o h z => s _ _ (x5 _ _ h z)) (t5.ext s))
  rintro i x σ H6 hx ⟨o3, o4, rfl, s6⟩
  obtain ⟨fa, G, rfl, CE, hG⟩ := asks i x hx
  refine ⟨_, rfl, _, rfl, fa, G, v, rfl, hG _ s6, .inl ⟨CE, d, n, hd5.same s6, tb, hn, fun l H7 s7 l0 hl => ?_⟩⟩
  have s57 := s6.trans s7
  have hd7 := hd5.same s57
  have top7 := top5.same s57
  have o2 := two_ok ok
  have w2 := two_wd d
  have p2 := two_dp d
  refine ⟨_, rfl, _, .list [.str "tree", d], rfl, .lst hl (.cons (.str _) (.cons hd7 .nil)), o2, by omega, by omega, ?_⟩
  refine ⟨_, rfl, by show 2 ≤ sizeLine; omega, fun M hM => ⟨_, .list [.str "tree", d], rfl, .lst upd_same (.cons (.str _) (.cons (hd7.same (same_new hM)) .nil)), o2, by omega, by omega, rfl, _, rfl, ?_⟩⟩
  have s78 := same_new hM (o := .lst [.str "tree", v])
  generalize upd H7 M (.lst [.str "tree", v]) = H8 at s78 ⊢
  have s58 := s57.trans s78
  have hd8 := hd5.same s58
  have hl8 := s78 _ _ hl
  refine iteB (fun c => absurd (c.symm.trans (same _)) (by decide)) (fun _ => ?_)
  refine ⟨_, rfl, v, d, rfl, hd8, ok, by omega, by omega, _, rfl, rfl, _, rfl, ?_⟩
  refine iteB (fun c => absurd (c.symm.trans (same _)) (by decide)) (fun _ => ?_)
  rcases top5 with ⟨ds, rfl⟩ | nr | ⟨a, xs, ds, rfl, ha5, rfl, hx5⟩ | ⟨a, rfl, ha5, rfl⟩
  · refine ⟨_, rfl, v, "list", rfl, by unfold Cn; simp, hd8.pv, _, rfl, ?_⟩
    rw [hd8.listd]
    refine iteF ⟨_, rfl, v, "dict", rfl, by unfold Cn; simp, hd8.pv, _, rfl, ?_⟩
    rw [hd8.dictd]
    exact iteF ⟨_, _, rfl, s58⟩
  · refine ⟨_, rfl, v, "list", rfl, by unfold Cn; simp, hd8.pv, _, rfl, ?_⟩
    rw [hd8.listd]
    have e : isLsD d = false ∧ isDcD d = false := by
      cases hd8 with
      | lst _ _ => exact absurd rfl (nr _)
      | tup _ _ => exact absurd rfl (nr _)
      | dct _ _ => exact absurd rfl (nr _)
      | dcT _ _ => exact absurd rfl (nr _)
      | non => exact ⟨rfl, rfl⟩
      | bl _ => exact ⟨rfl, rfl⟩
      | int _ => exact ⟨rfl, rfl⟩
      | str _ => exact ⟨rfl, rfl⟩
    rw [e.1]
    refine iteF ⟨_, rfl, v, "dict", rfl, by unfold Cn; simp, hd8.pv, _, rfl, ?_⟩
    rw [hd8.dictd, e.2]
    exact iteF ⟨_, _, rfl, s58⟩
  · refine ⟨_, rfl, .ref a, "list", rfl, by unfold Cn; simp, hd8.pv, _, rfl, ?_⟩
    rw [hd8.listd]
    have ha8 := s58 _ _ ha5
    have lx := hx5.length
    have ld := len_wid ds
    have wl : wid (.list ds) = widL ds + 2 := rfl
    have nla : l ≠ a := fun z => by rw [z, s6 _ _ ha5] at l0; exact nomatch l0
    refine iteT ⟨_, rfl, .inl ⟨rfl, _, SqL.of ha8⟩, a, xs, .str "more", rfl, rfl, ha8, by omega, ?_⟩
    have ha9 := upd_same (H := H8) (a := a) (o := .lst (xs ++ [.str "more"]))
    have w9 : Same (wof a H5) (upd H8 a (.lst (xs ++ [.str "more"]))) := fun b o h => by
      have n : b ≠ a := fun z => by rw [z, wof_self] at h; exact nomatch h
      rw [upd_ne n]
      exact s58 _ _ (wof_sub _ _ h)
    have l9 : upd H8 a (.lst (xs ++ [.str "more"])) l = some (.lst [.str "tree", .ref a]) := by rw [upd_ne nla]; exact hl8
    have b9 : ∀ b o, b ≠ a → H8 b = some o → upd H8 a (.lst (xs ++ [.str "more"])) b = some o := fun b o n h => by rw [upd_ne n]; exact h
    generalize upd H8 a (.lst (xs ++ [.str "more"])) = H9 at ha9 w9 l9 b9 ⊢
    have hv9 : Db K H9 (.ref a) (.list (ds ++ [.str "more"])) := .lst ha9 (DbL.app (hx5.same w9) (.cons (.str _) .nil))
    have ok3 : Ok1 (.list (ds ++ [.str "more"])) := okL_app ok ⟨(by decide +kernel : ∀ z ∈ (("more" : Str)).cps.toList, z < 16 ^ 8), trivial⟩
    have e4 : (("more" : Str)).length = 4 := by decide +kernel
    have wd3 : wid (.list (ds ++ [.str "more"])) = wid (.list ds) + 44 := by
      show widL (ds ++ [.str "more"]) + 2 = widL ds + 2 + 44
      rw [widL_app]
      show widL ds + ((10 * (("more" : Str)).length + 2) + 2 + 0) + 2 = _
      omega
    have dp3 : (PyData.list (ds ++ [.str "more"])).depth ≤ 200 := by
      have dp : PyData.depthAll ds + 1 ≤ 200 := dp
      have := dpL_app (xs := ds) (ys := [.str "more"]) (n := 199) (by omega) (by show max 0 0 ≤ 199; omega)
      show PyData.depthAll (ds ++ [.str "more"]) + 1 ≤ 200
      omega
    have o3 := two_ok ok3
    have w3 := two_wd (.list (ds ++ [.str "more"]))
    have p3 := two_dp (.list (ds ++ [.str "more"]))
    refine ⟨_, rfl, _, .list [.str "tree", .list (ds ++ [PyData.str "more"])], rfl, .lst l9 (.cons (.str _) (.cons hv9 .nil)), o3, by omega, by omega, ?_⟩
    refine ⟨_, rfl, by show 2 ≤ sizeLine; omega, fun M2 hM2 => ⟨_, .list [.str "tree", .list (ds ++ [PyData.str "more"])], rfl, .lst upd_same (.cons (.str _) (.cons (hv9.same (same_new hM2)) .nil)), o3, by omega, by omega, rfl, _, rfl, ?_⟩⟩
    refine iteB (fun c => absurd (c.symm.trans (same _)) (by decide)) (fun _ => ?_)
    have ha10 := same_new hM2 (o := .lst [.str "tree", .ref a]) _ _ ha9
    have s511 : Same H5 (upd (upd H9 M2 (.lst [.str "tree", .ref a])) a (.lst (xs ++ [V.str "more"]).dropLast)) := fun b o h => by
      by_cases z : b = a
      · rw [z, upd_same, List.dropLast_concat]
        rw [z, ha5] at h
        exact h
      · rw [upd_ne z]
        exact same_new hM2 _ _ (b9 _ _ z (s58 _ _ h))
    refine ⟨_, rfl, .inl ⟨rfl, _, SqL.of ha10⟩, a, xs ++ [V.str "more"], .str "more", rfl, rfl, ha10, by rw [List.length_append]; simp, ?_⟩
    have hd11 := hd5.same s511
    refine ⟨_, rfl, .ref a, "dict", rfl, by unfold Cn; simp, hd11.pv, _, rfl, ?_⟩
    rw [hd11.dictd]
    exact iteF ⟨_, _, rfl, s511⟩
  · refine ⟨_, rfl, .ref a, "list", rfl, by unfold Cn; simp, hd8.pv, _, rfl, ?_⟩
    rw [hd8.listd]
    have ha8 := s58 _ _ ha5
    have nla : l ≠ a := fun z => by rw [z, s6 _ _ ha5] at l0; exact nomatch l0
    refine iteF ⟨_, rfl, .ref a, "dict", rfl, by unfold Cn; simp, hd8.pv, _, rfl, ?_⟩
    rw [hd8.dictd]
    refine iteT ⟨_, rfl, a, _, rfl, DPut.k (k := .inr "more") ha8 (by show 0 < sizeLine; omega), ?_⟩
    have ha9 : upd H8 a (.dK (putK [] (.inr "more") (.int 1))) a = some (.dK [(.inr "more", .int 1)]) := upd_same
    have l9 : upd H8 a (.dK (putK [] (.inr "more") (.int 1))) l = some (.lst [.str "tree", .ref a]) := by rw [upd_ne nla]; exact hl8
    have b9 : ∀ b o, b ≠ a → H8 b = some o → upd H8 a (.dK (putK [] (.inr "more") (.int 1))) b = some o := fun b o n h => by rw [upd_ne n]; exact h
    generalize upd H8 a (.dK (putK [] (.inr "more") (.int 1))) = H9 at ha9 l9 b9 ⊢
    have hv9 : Db K H9 (.ref a) (.dict [(.str "more", .int 1)]) := .dct (kvs := [(.inr "more", .int 1)]) (ds := [.int 1]) ha9 (.cons (.int 1) .nil)
    have ok3 : Ok1 (.dict [(.str "more", .int 1)]) := ⟨(by decide +kernel : ∀ z ∈ (("more" : Str)).cps.toList, z < 16 ^ 8), (by decide +kernel : (1 : Int).natAbs.log2 < 1920), trivial⟩
    have wd3 : wid (.dict [(.str "more", .int 1)]) ≤ 100 := by decide +kernel
    have dp3 : (PyData.dict [(.str "more", .int 1)]).depth ≤ 200 := by decide +kernel
    have o3 := two_ok ok3
    have w3 := two_wd (.dict [(.str "more", .int 1)])
    have p3 := two_dp (.dict [(.str "more", .int 1)])
    refine ⟨_, rfl, _, .list [.str "tree", .dict [(.str "more", .int 1)]], rfl, .lst l9 (.cons (.str _) (.cons hv9 .nil)), o3, by omega, by omega, ?_⟩
    refine ⟨_, rfl, by show 2 ≤ sizeLine; omega, fun M2 hM2 => ⟨_, .list [.str "tree", .dict [(.str "more", .int 1)]], rfl, .lst upd_same (.cons (.str _) (.cons (hv9.same (same_new hM2)) .nil)), o3, by omega, by omega, rfl, _, rfl, ?_⟩⟩
    refine iteB (fun c => absurd (c.symm.trans (same _)) (by decide)) (fun _ => ?_)
    have ha10 := same_new hM2 (o := .lst [.str "tree", .ref a]) _ _ ha9
    have dr : dropK [((.inr "more" : Key), V.int 1)] (.inr "more") = [] := by decide +kernel
    refine ⟨_, rfl, a, rfl, .inl ⟨_, .inl ha10⟩, _, .inr "more", .int 1, ha10, rfl, by decide +kernel, ?_⟩
    rw [dr]
    exact ⟨_, _, rfl, fun b o h => by
      by_cases z : b = a
      · rw [z, upd_same]
        rw [z, ha5] at h
        exact h
      · rw [upd_ne z]
        exact same_new hM2 _ _ (b9 _ _ z (s58 _ _ h))⟩
end
end KT

namespace KT
open PySem L2 Gd KM LamX
section
variable {P : Program} {w : World} {K : PySem.W.Frag} {mg : Str → Option Value} {base : Heap} {aS aL aK C_X f_X C_T f_T C_Y f_Y : Addr} {es eK : Array DictEntry} {n nK : Nat}
theorem ok_parseN {f f1 f2 f3 f4 : Addr} {fd fd1 fd2 fd3 fd4 : FuncData} (F : Fun K "parse_expression" "parse_expression" sparse_expression f fd) (T : Txt w K mg base aS aL es n) (TY : PySem.EzValue.LowTxt K mg "InvalidText" "InvalidText.__init__" C_Y f_Y)
    (D_name_end : Df P w K mg base (L2.CX P w) 2 "name_end" f1 fd1 ["text", "start"] spEnd) (D_may_follow : Df P w K mg base CX0 2 "may_follow" f2 fd2 ["mark", "before", "depth"] spMay)
    (D_read_mark : Df P w K mg base CX0 3 "read_mark" f3 fd3 ["groups", "mark"] spRead) (D_group_tree : Df P w K mg base CX0 2 "group_tree" f4 fd4 ["rows"] spGroup) :
    FnG P w K mg base (L2.CX P w) 4 f fd ["text"] (spNoT K C_Y) := by
  refine okG F scparse_expression (fun vs H Q E h => ?_) (fun cdv A outer s H vs Q E hc hr h => ?_)
  · obtain ⟨v, d, rfl, _⟩ := h
    rfl
  obtain ⟨v, d, rfl, hd, no, q⟩ := h
  refine ⟨_, (pss_cons (ps_if (pt_not (pt_val (pe_callB call_isk (by rfl) T.z_isinstance (by decide +kernel) (pa_cons (pv 0) (pa_cons (pe_bltn (v := .ty "str") (by rfl) T.z_str (by decide +kernel) rfl) pa_nil)))))
  (pss_one (ps_raise_value rfl TY hr (takes_of rfl rfl rfl rfl) (pa_cons (pv 0) pa_nil))) pss_nil)
 (pss_cons (ps_set (i := 1) scparse_expression.nd rfl (Or.inl rfl) (pe_lst (pa_cons (pe_lst (pa_cons (pe_lst pa_nil) pa_nil)) pa_nil)))
 (pss_cons (ps_set (i := 2) scparse_expression.nd rfl (Or.inl rfl) pe_str)
 (pss_cons (ps_set (i := 3) scparse_expression.nd rfl (Or.inl rfl) pe_int)
 (pss_cons (ps_while (passes_of rfl) (pt_cmpR op_lt (pv 3) (pe_callB call_len_str (by rfl) T.z_len (by decide +kernel) (pa_cons (pv 0) pa_nil)) (nomark _))
  (pss_cons (ps_set (i := 4) scparse_expression.nd rfl (Or.inl rfl) (pe_ix ix_str (pv 0) (pv 3) (fun _ _ => rfl)))
 (pss_cons (ps_if (pt_cmpR op_eq (pv 4) pe_str (nomark _))
  (pss_cons (ps_set (i := 5) scparse_expression.nd rfl (Or.inl rfl) (pe_d D_name_end hc (hr.mono (by omega)) (by rfl) (fun σ => passAt (takes_of rfl rfl rfl rfl) σ) (pa_cons (pv 0) (pa_cons (pv 3) pa_nil))))
 (pss_cons (ps_expr (pe_bm PySem.F.plainAttrs_list PySem.F.slot_list_append PySem.F.type_list_append mt_append (pe_ix ix_list (pe_ix ix_list (pv 1) (pe_un un_neg pe_int) (fun _ _ => rfl)) (pe_un un_neg pe_int) (fun _ _ => rfl)) (pa_cons (pe_tup (pa_cons pe_str (pa_cons (pe_slice sl_str (pv 0) (po_some (pe_op op_add (pv 3) pe_int)) (po_some (pv 5))) pa_nil))) pa_nil)))
 (pss_one (ps_set (i := 3) scparse_expression.nd rfl (Or.inl rfl) (pv 5))))) (pss_one (ps_if (pt_val (pe_d D_may_follow hc (hr.mono (by omega)) (by rfl) (fun _ => passN) (pa_cons (pv 4) (pa_cons (pv 2) (pa_cons (pe_op op_sub (pe_callB call_len_seq (by rfl) T.z_len (by decide +kernel) (pa_cons (pv 1) pa_nil)) pe_int) pa_nil)))))
  (pss_one (ps_expr (pe_d D_read_mark hc (hr.mono (by omega)) (by rfl) (fun _ => passN) (pa_cons (pv 1) (pa_cons (pv 4) pa_nil))))) (pss_one ps_never))))
 (pss_cons (ps_set (i := 2) scparse_expression.nd rfl (Or.inl rfl) (pv 4))
 (pss_one (ps_aug (i := 3) scparse_expression.nd rfl (Or.inl rfl) pe_int ip_add))))))
 (pss_cons (ps_if (pt_cmpR op_gt (pe_callB call_len_seq (by rfl) T.z_len (by decide +kernel) (pa_cons (pv 1) pa_nil)) pe_int (nomark _))
  (pss_one ps_never) pss_nil)
 (pss_one (ps_ret (pe_d D_group_tree hc (hr.mono (by omega)) (by rfl) (fun _ => passN) (pa_cons (pe_ix ix_list (pv 1) pe_int (fun _ _ => rfl)) pa_nil)))))))))), ?_⟩
  have sz := sizeLine_eq
  refine ⟨_, rfl, v, "str", rfl, .inr (.inl rfl), hd.pv, _, rfl, ?_⟩
  have e : inst "str" (kind H v) = false := by
    rw [hd.strd]
    cases d with
    | str x => exact absurd rfl (no x)
    | _ => rfl
  rw [e]
  exact iteT ⟨_, rfl, v, rfl, fun e he => q e H (Same.refl H) he⟩
end
end KT

set_option maxHeartbeats 4000000
namespace PySem
namespace EzValue
open PySem.W PySem.Calls PyProof.Rows PySem.HandSPX
/-! ### an exception made with no context -/
structure OwnMadeN (h h' : Heap) (e C d : Addr) (v : Value) : Prop where
  keep : ∀ b o, h.get? b = some o → h'.get? b = some o
  new : h.objs.size ≤ e
  obj : ∃ (oe : Obj) (vs : Array Value), h'.get? e = some oe ∧ oe.cls = .ref C ∧ oe.dict = some d ∧ oe.data = .fields vs ∧ vs[1]? = some .none ∧ vs[2]? = some .none
  dbig : h.objs.size ≤ d
  dne : d ≠ e
  ns : h'.Ns1 d (fun y => if y = "value" then some v else none)
theorem low_madeN {prog : Program} {w : World} {A : Around} {R : Result → Shared → Prop} {s : Shared} {K : Frag} {mg : Str → Option Value} {nm : Str} {qn : String} {C fI : Addr} (T : LowTxt K mg nm qn C fI) {v : Value} (X : K.In s.heap) (hlim : s.heap.NoLimit) (hroom : A.depth + 1 < recursionLimit)
    (hq : ∀ h' tk e d, OwnMadeN s.heap h' e C d v → R (.ok (.ret (.ref e))) { s with heap := h', toks := tk }) :
    codeAny (model prog w) A (.call (.ref C) ⟨[v], []⟩) R s := by
  obtain ⟨nmC, q, N, bs, bm, sn, sub, ab, col, dd, k0, k1, k2, k3, k5, hC, hbm⟩ := T.cls
  obtain ⟨hp, g, dr, tk, os⟩ := s
  have k : ∀ b o, hp.get? b = some o → ((hp.push (kdv_tup [v])).push (excO C hp.objs.size)).get? b = some o := fun b o e => Heap.get?_push_of_some _ (Heap.get?_push_of_some _ e)
  have hget : ((hp.push (kdv_tup [v])).push (excO C hp.objs.size)).get? (hp.objs.size + 1) = some (excO C hp.objs.size) := by heap_get
  have hnx : K.lookup (hp.objs.size + 1) = none := by
    cases e : K.lookup (hp.objs.size + 1) with
    | none => rfl
    | some o =>
      have z : hp.get? (hp.objs.size + 1) = some o := X _ _ e
      exact absurd (Nat.lt_of_succ_lt (Heap.lt_size z)) (Nat.lt_irrefl _)
  refine call_own F.excBase_ValueError (fun X => refsVE_contains X bm hbm) (X _ _ hC) (looks_findIn X T.iC) (fun self => bind_fn X self T.tC) (one_size v) ?_
  refine low_init (s := ⟨(hp.push (kdv_tup [v])).push (excO C hp.objs.size), g, dr, tk, os⟩) T (X.keeps k) (hlim.keeps k) hget hnx ?_ fun h' tk' dx ⟨k', hx, dn, dne, hns⟩ => ?_
  · show A.depth + 1 < recursionLimit
    exact hroom
  · have old : ∀ b o, hp.get? b = some o → h'.get? b = some o := fun b o e => k' b o (Nat.ne_of_lt (Nat.lt_succ_of_lt (Heap.lt_size e))) (k b o e)
    have z : hp.objs.size + 1 + 1 ≤ dx := by
      first
        | (simpa only [Heap.size_push] using dn)
        | exact dn
        | (have q := dn; rw [Heap.size_push, Heap.size_push] at q; exact q)
    exact ⟨rfl, hq h' tk' (hp.objs.size + 1) dx ⟨old, Nat.le_succ _, ⟨_, _, hx, rfl, rfl, rfl, rfl, rfl⟩, Nat.le_trans (Nat.le_trans (Nat.le_succ _) (Nat.le_succ _)) z, dne, hns⟩⟩
end EzValue
end PySem
namespace Gd
open PySem PySem.Spec PyProof.Rows L2 L2H
section
variable {X : Cx} {nm : Str} {qn : String} {C fI : Addr}
theorem pmkN_value {a : Expr} {ta : TA} {p pos : Pos} (T : PySem.EzValue.LowTxt X.K X.mg nm qn C fI) (hdp : X.A.depth + 1 < recursionLimit) (ha : PA X [a] ta) (hg : Gl X nm := by rfl) (hdb : (nm == ("__debug__" : Str)) = false := by decide)
    (he : starEach (a :: []) X.env = (false, eval a X.env) :: starEach [] X.env := by rfl) (hpl : (backTo pos (starEach [] X.env)).any (·.1) = false := by rfl) :
    L2N.PMk X (.Call (.Name nm p) [a] [] pos) (tMk_value C ta) := by
  intro pins s σ H Q I h
  refine wpAny_Call_Name_kw (ld_glob I hg T.gC ?_ hdb)
  refine PySem.W.callWith_K (h₀ := X.base) I.ok.mod.kin T.kC (thn (ha.run pos pins s σ H _ I h) fun us s1 hh => ?_) he hpl
  obtain ⟨vs, H1, I1, r1, v, ev, q1⟩ := hh
  subst ev
  refine ⟨I1.kIn, ?_⟩
  cases r1 with
  | cons rv rn =>
    rename_i v' us'
    cases rn
    show wpAny _ _ (call (.ref C) [v']) _ _ _
    have hlim := I1.nolimit
    obtain ⟨hp, g, dr, tk, os⟩ := s1
    refine wpAny_call (PySem.EzValue.low_madeN T I1.kIn hlim hdp fun h' tk' e d M => ?_)
    show L2N.MkP X pins σ Q (.ref e) ⟨h', g, dr, tk', os⟩
    obtain ⟨oe, fv, hoe, hc, hd, hdat, h1, h2⟩ := M.obj
    have hns := M.ns
    obtain ⟨G', g1, g2⟩ := restrict h' fun b => decide (b ≠ e)
    have gk : ∀ b, b ≠ e → G'.get? b = h'.get? b := fun b hb => g1 b (decide_eq_true hb)
    have ge : G'.get? e = none := g2 e (by simp)
    have old : ∀ b o, hp.get? b = some o → G'.get? b = some o := fun b o q => (gk b (Nat.ne_of_lt (Nat.lt_of_lt_of_le (Heap.lt_size q) M.new))).trans (M.keep b o q)
    have ob : ObjOk X.prog X.w (upd H1 d (.xd [(("value" : Str), v)])) G' d (.xd [(("value" : Str), v)]) :=
      ⟨_, hns.at (fun o q => (gk d M.dne).trans q), fun f => relO_value rv f⟩
    have J : Inv X pins σ (upd H1 d (.xd [(("value" : Str), v)])) ⟨G', g, dr, tk', os⟩ := I1.laid (t' := tk') old M.dbig ob
    refine ⟨e, oe, fv, ⟨G', g, dr, tk', os⟩, _, .ref C, some d, rfl, J, fun b o q => ?_, ge, hoe, ⟨hc, hd, fun vs ev => ?_⟩, hdat, h1, ?_, rfl, I1.bare, raises_own T.exC T.tyC, q1 d (I1.hok.fresh M.dbig)⟩
    · by_cases hb : b = e
      · have q' : G'.get? b = some o := q
        rw [hb, ge] at q'; cases q'
      · exact (gk b hb).symm.trans q
    · rw [hdat] at ev
      cases ev
      exact h2
    · rw [upd_ne (Ne.symm M.dne)]
      exact I1.hok.fresh M.new
/-- raised where nothing is handled; its context stays None -/
theorem ps_raise_valueN {a : Expr} {ta : TA} {W : WX} {p pos pos2 : Pos} (hc : X.calm = true) (T : PySem.EzValue.LowTxt X.K X.mg nm qn C fI) (hdp : X.A.depth + 1 < recursionLimit) (tk : L2N.Takes X W) (ha : PA X [a] ta) (hg : Gl X nm := by rfl) (hdb : (nm == ("__debug__" : Str)) = false := by decide)
    (he : starEach (a :: []) X.env = (false, eval a X.env) :: starEach [] X.env := by rfl) (hpl : (backTo pos (starEach [] X.env)).any (·.1) = false := by rfl) :
    PS X (.Raise (some (.Call (.Name nm p) [a] [] pos)) none pos2) (tRaise_value C W ta) := L2N.ps_raise hc tk (pmkN_value T hdp ha hg hdb he hpl)
/-- raised where another one is handled -/
theorem ps_raise_valueH {a : Expr} {ta : TA} {W : WX} {p pos pos2 : Pos} (hc : HotC X) (T : PySem.EzValue.LowTxt X.K X.mg nm qn C fI) (hdp : X.A.depth + 1 < recursionLimit) (tk : Takes X W) (ha : PA X [a] ta) (hg : Gl X nm := by rfl) (hdb : (nm == ("__debug__" : Str)) = false := by decide)
    (he : starEach (a :: []) X.env = (false, eval a X.env) :: starEach [] X.env := by rfl) (hpl : (backTo pos (starEach [] X.env)).any (·.1) = false := by rfl) :
    PS X (.Raise (some (.Call (.Name nm p) [a] [] pos)) none pos2) (tRaise_value C W ta) := ps_raiseH hc tk (pmkN_value T hdp ha hg hdb he hpl)
end
/-! ### contracts that hold where an exception is handled -/
structure FnGH (P : Program) (w : World) (K : PySem.W.Frag) (mg : Str → Option Value) (base : Heap) (CX : CXT) (k : Nat) (f : Addr) (fd : FuncData) (ps : List Str) (sp : Sp) : Prop where
  len : ∀ vs H Q E, sp vs H Q E → vs.length = ps.length
  run : ∀ (A : Around) (outer : List Env) (s : Shared) (H : Hp) (args : Args) (us : List Value) (vs : List V) (Q : VK) (E : XK) (p : Addr × Obj), Clean A → RoomH k A → Hot1 A p → PinOk outer H s p → Env0 P w K mg base A outer s H → BindsTo s fd args (ps.zip us) → Vals vs us → sp vs H Q E →
    codeAny (model P w) A (.call (.ref f) args) (CR CX outer P w H s Q E) s
section
variable {P : Program} {w : World} {K : PySem.W.Frag} {mg : Str → Option Value} {base : Heap} {CX : CXT} {k j : Nat} {f : Addr} {fd : FuncData} {ps : List Str} {sp : Sp}
theorem FnGH.mono (F : FnGH P w K mg base CX j f fd ps sp) (h : j ≤ k) : FnGH P w K mg base CX k f fd ps sp :=
  ⟨F.len, fun A outer s H args us vs Q E p hc hr hot hp e0 hb r q => F.run A outer s H args us vs Q E p hc (hr.mono h) hot hp e0 hb r q⟩
theorem okGH {CX : CXT} {x qual : Str} {st : Stmt} {N : List Str} (F : Fun K x qual st f fd) (S : FnScope N ps (defScope st)) (len : ∀ vs H Q E, sp vs H Q E → vs.length = ps.length)
    (hbody : ∀ (cdv : Value) (A : Around) (outer : List Env) (s : Shared) (H : Hp) (vs : List V) (Q : VK) (E : XK) (p : Addr × Obj), Clean A → RoomH k (A.deeper (envOfC qual (defScope st) s.heap.objs.size f cdv)) → HotC (cxH CX P w K mg base N qual (defScope st) f cdv A outer s H E p) → (∀ c, fd.code = .ref c → cdv = .ref c) → sp vs H Q E →
      ∃ t, PSs (cxH CX P w K mg base N qual (defScope st) f cdv A outer s H E p) (defBody st) t ∧ t { nx := fun _ H' => Q .non H', rt := Q } (start N vs) H) : FnGH P w K mg base CX (k + 1) f fd ps sp := by
  obtain ⟨oc, od, kV, doc, pm, an, cdv, ct, osl, efd, lk, hcd⟩ := F.ex
  subst efd
  refine ⟨len, fun A outer s H args us vs Q E p hc hr hot hpin e0 hb r hsp => ?_⟩
  have bk : ∀ b o, base.get? b = some o → s.heap.get? b = some o := fun b o e => (e0.bs b o e).1
  have KX : K.In s.heap := e0.mod.kin.keeps bk
  have hkind : ∀ y ∈ ps.zip us, (defScope st).names.lookup y.1 = some .local ∨ ((defScope st).names.lookup y.1 = some .cell ∧ ((cellsFrom (s.heap.objs.size + 1) (defScope st).names []).lookup y.1).isSome = true) := by
    rintro ⟨n, v⟩ hy
    exact (S.par n (List.of_mem_zip hy).1).imp id fun q => ⟨q, PySem.W.cellsFrom_some _ _ _ (.inl q)⟩
  refine codeAny_call_function hr.depth (KX _ _ lk) rfl S.co S.gen rfl (PySem.W.codeRec_of KX hcd) (hb _ _ _ _ (wpAny_newFunctionEnv_cells S.kind hkind ?_))
  intro env he s1 x
  subst he
  refine ⟨(e0.mod.nolimit.keeps bk).keeps x.toInCall.keep, codeAny_func ?_⟩
  obtain ⟨t, ht, hq⟩ := hbody cdv A outer s H vs Q E p hc (hr.deeper _) ⟨p, hot, List.mem_singleton.mpr rfl⟩ (fun c e => e) hsp
  have I : Inv (cxH CX P w K mg base N qual (defScope st) f cdv A outer s H E p) [] (L2.start N vs) H s1 := inv_startH S hpin e0 (len _ _ _ _ hsp) r x
  refine wpAny_mono (ht.run [] s1 (L2.start N vs) H _ I hq) (fun fl s' hs => ?_) fun _ _ z => z
  match fl, hs with
  | .ret u, ⟨v, σ', H', J, rv, q⟩ => exact ⟨v, H', J.os, J.bare, J.base, J.hok, rv, q⟩
  | .next, ⟨σ', H', J, q⟩ => exact ⟨V.non, H', J.os, J.bare, J.base, J.hok, rfl, q⟩
  | .brk, ⟨_, _, _, q⟩ => exact q.elim
  | .cont, ⟨_, _, _, q⟩ => exact q.elim
end
structure DfH (P : Program) (w : World) (K : PySem.W.Frag) (mg : Str → Option Value) (base : Heap) (CX : CXT) (k : Nat) (x : Str) (f : Addr) (fd : FuncData) (ps : List Str) (sp : Sp) : Prop where
  G : FnGH P w K mg base CX k f fd ps sp
  m : mg x = some (.ref f)
  kp : PySem.W.keepIn K (.ref f) = true
  b : Binds K fd ps []
theorem roomH100 {k : Nat} {A : Around} (r : RoomH k A) : A.units + 100 < cLine := by
  have := r.un
  omega
theorem roomH230 {k : Nat} {A : Around} (r : RoomH k A) (h : 2 ≤ k) : A.units + 230 < cLine := by
  have := r.un
  omega
theorem roomH1 {k : Nat} {A : Around} (r : RoomH k A) : A.depth + 1 < recursionLimit := by
  have := r.dp
  omega
section
variable {X : Cx} {CX : CXT} {k : Nat} {f : Addr} {fd : FuncData} {ps : List Str} {sp : Sp} {E : L2.St → XK} {x : Str} {p pos : Pos} {e : Expr} {es : List Expr} {t : TA}
theorem runGH {pins : List (Addr × Obj)} {σ : L2.St} {H : Hp} {s : Shared} {Q : VK} {us : List Value} {vs : List V} (F : FnGH X.prog X.w X.K X.mg X.base CX k f fd ps sp) (hc : Clean X.A) (hr : RoomH k X.A) (hot : HotC X) (hb : Binds X.K fd ps []) (hx : PassesAt CX X σ (E σ))
    (I : Inv X pins σ H s) (r : Vals vs us) (h : sp (vs ++ []) H Q (E σ)) : wpAny (model X.prog X.w) X.A (call (.ref f) us) (EP X pins σ Q) X.xe s := by
  rw [List.append_nil] at h
  obtain ⟨p, hot, hp⟩ := hot
  have hl : us.length = ps.length := by rw [← r.length]; exact F.len _ _ _ _ h
  have b := hb s us I.kIn (by rw [List.append_nil]; exact hl)
  rw [List.append_nil] at b
  have P1 := I.pin p (List.mem_append_left _ hp)
  have hpin : PinOk X.stack H s p := ⟨P1.1, P1.2.1, fun hm => (List.mem_cons.mp (I.stkSub p.1 hm)).elim P1.2.2.1 P1.2.2.2.1, P1.2.2.2.2⟩
  refine wpAny_call (codeAny_mono (F.run X.A X.stack s H ⟨us, []⟩ us vs Q (E σ) p hc hr hot hpin I.env0 b r h) fun r s' hq => ?_)
  cases r with
  | error e => exact hx pins H s e s' I hq
  | ok fl =>
    cases fl with
    | ret u => exact I.after hq
    | next => exact False.elim hq
    | brk => exact False.elim hq
    | cont => exact False.elim hq
theorem pe_dH (hot : HotC X) (D : DfH X.prog X.w X.K X.mg X.base CX k x f fd ps sp) (hc : Clean X.A) (hr : RoomH k X.A) (hg : Gl X x) (hx : ∀ σ, PassesAt CX X σ (E σ)) (ha : PA X (e :: es) t) (hdb : (x == ("__debug__" : Str)) = false := by decide)
    (he : starEach (e :: es) X.env = (false, eval e X.env) :: starEach es X.env := by rfl) (hpl : (backTo pos (starEach es X.env)).any (·.1) = false := by rfl) :
    PE X (.Call (.Name x p) (e :: es) [] pos) (tCallG sp [] E t) := by
  refine ⟨fun pins s σ H Q I h => ?_⟩
  refine wpAny_Call_Name_kw (ld_glob I hg D.m ?_ hdb)
  exact PySem.W.callWith_K (h₀ := X.base) I.ok.mod.kin D.kp (thn (ha.run pos pins s σ H _ I h) fun us s1 ⟨vs, H1, I1, r, q⟩ => ⟨I1.kIn, runGH D.G hc hr hot D.b (hx σ) I1 r q⟩) he hpl
end
end Gd

namespace Gd
open PySem PySem.Spec PyProof.Rows HotX
section
variable {prog : Program} {w : World} {A : Around} {E : Value → Shared → Prop} {s : Shared}
/-- a walk over a list ends where an exception is handled -/
theorem pyNext_list_end_hot {it l x1 : Addr} {i : Nat} {items : Array Value} {Q : Option Value → Shared → Prop} (hot : HotAt A x1 s.heap) (hne : x1 ≠ it)
    (hit : s.heap.IsListIter it l i) (hl : s.heap.IsList l items) (hx : items[i]? = none)
    (hQ : ∀ h', (∀ b o, b ≠ it → s.heap.get? b = some o → h'.get? b = some o) → Q none { s with heap := h' }) : wpAny (model prog w) A (pyNext (.ref it)) Q E s := by
  obtain ⟨o, ho, hc, hd⟩ := id hit
  obtain ⟨ol, hol, _, nl, hdl⟩ := hl
  obtain ⟨hh, o1, vs1, h1, d1, c1⟩ := hot
  unfold pyNext
  refine wpAny_bind (wpAny_attempt (wpAny_callSpecial?_slot (name := Str.ofString "__next__") hit.typeIs PySem.slot_listiter_next
    (wpAny_call_entry PySem.slot_listiter_next hit.typeIs PySem.entry_listiter_next ?_ (PySem.args_listiter_next _))))
  show wpAny _ _ (field (.ref it) 0 >>= _) _ _ s
  refine wpAny_bind (wpAny_field ho hd (x := .ref l) rfl ?_)
  show wpAny _ _ (if (Value.ref l == Value.none) = true then _ else _) _ _ s
  rw [if_neg (show ¬ ((Value.ref l == Value.none) = true) from Bool.false_ne_true)]
  show wpAny _ _ (field (.ref it) 1 >>= _) _ _ s
  refine wpAny_bind (wpAny_field ho hd (x := .int i 0) rfl ?_)
  show wpAny _ _ (seqItems? (.ref l) >>= _) _ _ s
  refine wpAny_bind (wpAny_seqItems hol hdl ?_)
  simp only [Int.toNat_natCast, hx]
  refine wpAny_bind (wpAny_rule (wpAny_bind (wpAny_setField ho hd (by simp) ?_)))
  have keep : ∀ b o, b ≠ it → s.heap.get? b = some o → (s.heap.update it (Obj.mapFields (·.setIfInBounds 0 Value.none))).get? b = some o := fun b o n e => by
    rw [Heap.get?_update_other _ _ (Ne.symm n)]
    exact e
  have k1 := keep x1 o1 hne h1
  show wpAny _ _ (newExc (.type "StopIteration") [] >>= _) _ _ _
  refine wpAny_bind ?_
  simp only [newExc, newTuple]
  refine wpAny_bind (wpAny_newObj_type ?_ (by size_fits))
  refine wpAny_bind (m := firstArgMember _ _) (wpAny_of_eq (a := Value.none) (by first | rfl | (simp only [firstArgMember]; rfl)) ?_)
  refine wpAny_newObj_type ?_ (by size_fits)
  refine raiseNew_hot ⟨hh, o1, vs1, Heap.get?_push_of_some _ (Heap.get?_push_of_some _ k1), d1, c1⟩ (Nat.ne_of_lt (Heap.lt_size (Heap.get?_push_of_some _ k1))) (Heap.get?_push_size _ rfl) rfl (by first | (simp; done) | (simp; omega) | (simp only [Array.size_append]; simp; omega)) ?_
  refine wpAny_bind (wpAny_isInstance (T := "StopIteration") (b := true) ⟨_, Heap.get?_update_self _ (Heap.get?_push_size _ rfl) rfl, rfl⟩ PySem.isSubtype_stop ?_)
  refine wpAny_pure (hQ _ fun b o n e => ?_)
  have k2 := Heap.get?_push_of_some { cls := .type "tuple", data := .seq #[] } (keep b o n e)
  rw [Heap.get?_update_other _ _ (Nat.ne_of_gt (Heap.lt_size k2))]
  exact Heap.get?_push_of_some _ k2
end
end Gd
namespace Gd
open PySem PySem.Spec PyProof.Rows L2 L2H
theorem turn_listH {P : Program} {w : World} {K : PySem.W.Frag} {tg : Expr} (a it : Addr) : TurnH P w K tg (Itl K a) [it] it (fun i h => h.IsListIter it a i) where
  mem := by simp
  obj := (turn_list (P := P) (w := w) (K := K) (tg := tg) a it).obj
  keep := (turn_list (P := P) (w := w) (K := K) (tg := tg) a it).keep
  item := by
    intro X hP hw hK hc i pins s σ H E I hf st hg
    subst hP hw hK
    obtain ⟨xs, x, hq, hx⟩ := hg
    obtain ⟨its, rv, p, hz⟩ := I.list hq
    obtain ⟨u, hu, ru⟩ := rv.get hx
    obtain ⟨f0, f1, f2, f3, f4, f5⟩ := hf it (by simp)
    refine wpAny_pyNext_list_item st p.isList (x := u) (by simpa using hu) fun h' st' sb => ?_
    have I1 : Inv X pins σ H { s with heap := h' } := I.turned (t' := s.toks) (fun b o hb e => (sb.2 b hb).trans e) f0 f1 f3 f4 f5
    obtain ⟨o, e, c, d⟩ := id st'
    exact ⟨u, rfl, go_of (s := { s with heap := h' }) e c d (by decide) ⟨x, H, I1, ru, ⟨rfl, fun ys hy => by rw [I.list_inj hy hq]; exact hx⟩, st', fun b hb => (hf b hb).1⟩⟩
  done := by
    intro X hP hw hK hc i pins s σ H E I hf st hg
    subst hP hw hK
    obtain ⟨xs, hq, hx⟩ := hg
    obtain ⟨its, rv, p, hz⟩ := I.list hq
    obtain ⟨f0, f1, f2, f3, f4, f5⟩ := hf it (by simp)
    have hl := rv.length
    obtain ⟨q, ⟨hh, v1, e1, c1⟩, hp⟩ := hc
    exact pyNext_list_end_hot ⟨hh, q.2, v1, (I.pin q (List.mem_append_left _ hp)).1, e1, c1⟩ (f5 q (List.mem_append_left _ hp)) st p.isList (by simp; omega) fun h' eb => ⟨rfl, I.turned (t' := s.toks) (fun b o hb e => eb b o hb e) f0 f1 f3 f4 f5⟩
  self := (turn_list (P := P) (w := w) (K := K) (tg := tg) a it).self
section
variable {X : Cx} {tg : Expr}
theorem pi_listH {l : Expr} {tl : TE} (hl : PE X l tl) : PIH X tg l (iList X.K tl) := by
  refine ⟨fun pins s σ H R I h => ?_⟩
  refine thn (hl.run pins s σ H _ I h) fun v s1 ⟨x, H1, I1, r1, q1⟩ => ?_
  obtain ⟨a, e, ⟨xs, hq⟩, q⟩ := q1
  subst e
  cases r1
  obtain ⟨its, rv, p, hz⟩ := I1.list hq
  refine wpAny_pyIter_list p.isList ?_
  refine ⟨s1.heap.objs.size, [s1.heap.objs.size], _, _, H1, rfl, I1.kept (t' := s1.toks) fun b o e => Heap.get?_push_of_some _ e, turn_listH a _, ⟨_, Heap.get?_push_size _ rfl, rfl, rfl⟩, fun b hb => ?_, q⟩
  have e : b = s1.heap.objs.size := by simpa using hb
  subst e
  exact I1.fpOk (Nat.le_refl _) (I1.hok.fresh (Nat.le_refl _))
end
end Gd

namespace Gd
open PySem PySem.Spec PyProof.Rows L2 L2H LamX
section
variable {X : Cx} {body : List Stmt} {hds : List ExceptHandler} {pos : Pos} {tb : WX → TS} {x1 x2 n : Str} {i : Nat} {c1 c2 : Value} {ts : Addr → Value → Option Addr → TS} {b₀ : Stmt} {suite : List Stmt} {p1 p2 tpos ps : Pos} {kk : Nat}
theorem ps_tryTwoH (hs : X.stack = X.env :: X.outer) (hf : X.env.frame = some X.env.locals) (hN : X.N.Nodup) (hi : X.N[i]? = some n) (hl : X.env.kindOf n = some .local) (hc1 : Names X x1 c1) (hc2 : Names X x2 c2)
    (hb : ∀ (W : WX) (pn : List (Addr × Obj)) (xe : Value → Shared → Prop), (∀ q ∈ X.pn, q ∈ pn) → Takes (X.tr pn xe) W → PassesOwn (model X.prog X.w) X.A X.env xe → PSs (X.tr pn xe) body (tb W))
    (hsu : ∀ (a : Addr) (oe : Obj) (cls : Value) (d : Option Addr) (pn : List (Addr × Obj)), Zc cls d oe → (∃ vs, oe.data = .fields vs) → PSs (X.suite a ((a, oe) :: pn)) (b₀ :: suite) (ts a cls d)) :
    PS X (.Try body (.ExceptHandler (some (.Tuple [.Name x1 p1, .Name x2 p2] kk tpos)) (some n) (b₀ :: suite) ps :: hds) [] [] pos) (fun D σ H => tb (wTwo X.K D c1 c2 i ts) D σ H) := by
  refine ⟨fun pins s σ H D I h => ?_⟩
  have ok := I.ok
  have hfr : X.A.frames = some (X.env :: X.outer) := ok.frames.trans (congrArg some hs)
  refine wpAny_Try_except (wpAny_mono ((hb (wTwo X.K D c1 c2 i ts) (X.pn ++ pins) _ (fun q hq => List.mem_append_left _ hq) ?caught PassesOwn.looking).run [] s σ H D (I.toTry _) h) ?norm fun _ _ z => z)
  case norm =>
    intro f s1 hsp
    match f, hsp with
    | .next, ⟨σ', H', J, q⟩ => exact wpAny_execs_nil ⟨σ', H', J.ofTry ok, q⟩
    | .brk, ⟨σ', H', J, q⟩ => exact ⟨σ', H', J.ofTry ok, q⟩
    | .cont, ⟨σ', H', J, q⟩ => exact ⟨σ', H', J.ofTry ok, q⟩
    | .ret u, ⟨v, σ', H', J, r, q⟩ => exact ⟨v, σ', H', J.ofTry ok, r, q⟩
  case caught =>
    intro u s' xx
    obtain ⟨a, B, sI, pins', σ', H', cls, d, rfl, J', nb, up, sky, na, os, ag, w⟩ := xx
    have J : Inv X pins σ' H' sI := J'.ofTry ok
    rw [show (X.tr (X.pn ++ pins) _).stack = X.env :: X.outer from hs] at sky
    show wpAny _ X.A (noteFrame (.ref a) X.env) _ _ _
    refine Sky.land Zc.steady hfr hf sky fun h3 fl3 up3 => ?_
    have J3 : Inv X pins σ' H' { s' with heap := h3 } := J.landed nb fl3.1 (up.trans up3) os ag
    obtain ⟨oe3, vs3, he3, hz3, hd3⟩ := fl3.there
    have nfr : a ∉ frs (X.env :: X.outer) := fun hm => by
      obtain ⟨_, o, e, hn⟩ := fl3.2.2.1.mem hm
      rw [he3] at e
      cases e
      exact hn _ hd3
    have nL : a ≠ X.env.locals := fun z => nfr (List.mem_filterMap.mpr ⟨X.env, List.mem_cons_self, by rw [hf, z]⟩)
    have nF : a ∉ X.fs := fun hm => nfr (let ⟨e, he, q⟩ := List.mem_filterMap.mp hm; List.mem_filterMap.mpr ⟨e, List.mem_cons_of_mem _ he, q⟩)
    have S3 := J3.suite he3 hd3 na nL nF
    have LT : PySem.W.Looks (model X.prog X.w) h3 (typeOf (.ref a)) cls := fun A Q E s k q => wpAny_typeOf_ref (k _ _ he3) (by rw [hz3.1]; exact q)
    have test : ∀ {x : Str} {c : Value} {np : Pos} {Q E : Value → Shared → Prop}, Names X x c → Q c { s' with heap := h3 } → wpAny (model X.prog X.w) (X.A.mark (some (.ref a))) (eval (.Name x np) X.env) Q E { s' with heap := h3 } := by
      rintro x c np Q E ⟨hg, hdb, hm | ⟨hm, hv, hn⟩⟩ q
      · exact ld_glob (X := X.suite a ((a, oe3) :: (X.pn ++ pins))) S3 hg hm q hdb
      · exact ld_blt (X := X.suite a ((a, oe3) :: (X.pn ++ pins))) S3 hg hm hv q hn hdb
    obtain ⟨hb1, yes⟩ := w
    have kp : ∀ q o, h3.get? q = some o → (h3.push { cls := .type "tuple", data := .seq [c1, c2].toArray }).get? q = some o := fun _ _ z => Heap.get?_push_of_some _ z
    refine wpAny_handleBy_cons (codeAny_handlers_test ?_) (fun q => nomatch q)
    refine wpAny_Tuple (wpAny_items_cons (test hc1 (wpAny_items_cons (test hc2 (wpAny_items_nil ⟨by size_fits, ?_⟩)))))
    refine (PySem.W.exm_tup2 (M := model X.prog X.w) (J3.kIn.keeps kp) (LT.keeps kp) (Heap.get?_push_size h3 rfl) hb1).here ?_
    have fl3' := fly_keep fl3 kp
    have up3' : s'.heap.UpToSlots (h3.push { cls := .type "tuple", data := .seq [c1, c2].toArray }) := up3.trans (.of_keeps kp)
    generalize (h3.push { cls := .type "tuple", data := .seq [c1, c2].toArray }) = g3 at fl3' up3'
    refine codeAny_handlers_suite_as (HandSPX.lands_againZ fl3' fun h4 fl4 up4 => ?_)
    have J4 : Inv X pins σ' H' { s' with heap := h4 } := J.landed nb fl4.1 ((up.trans up3').trans up4) os ag
    obtain ⟨oe4, vs4, he4, hz4, hd4⟩ := fl4.there
    refine store_ok (X := X.suite a ((a, oe4) :: (X.pn ++ pins))) (v := .ref a) (J4.suite he4 hd4 na nL nF) hN hi (.inl hl) rfl (fun s5 S5 => ?_) (.inr hl)
    refine wpAny_mono ((hsu a oe4 cls d (X.pn ++ pins) hz4 ⟨_, hd4⟩).run [] s5 _ H' (gone D i) S5 (yes a na)) (fun f s6 hsp => ?_) fun _ _ z => z.elim
    have fin : ∀ {σ6 : L2.St} {H6 : Hp} {Q : Shared → Prop}, Inv (X.suite a ((a, oe4) :: (X.pn ++ pins))) [] σ6 H6 s6 → (∀ s7, Inv X pins (σ6.set i none) H6 s7 → Q s7) →
      wpAny (model X.prog X.w) X.A (do bindName X.env n .none; unbindBehindTheSuite X.env n ps) (fun _ s7 => Q s7) X.xe s6 := fun S6 hq => gone_ok (S6.unsuite ok) hN hi hl hq
    match f, hsp with
    | .next, ⟨σ6, H6, S6, q6⟩ => exact fin S6 fun s7 J7 => ⟨_, _, J7, q6⟩
    | .brk, ⟨σ6, H6, S6, q6⟩ => exact fin S6 fun s7 J7 => ⟨_, _, J7, q6⟩
    | .cont, ⟨σ6, H6, S6, q6⟩ => exact fin S6 fun s7 J7 => ⟨_, _, J7, q6⟩
    | .ret u, ⟨v6, σ6, H6, S6, r6, q6⟩ => exact fin S6 fun s7 J7 => ⟨_, _, _, J7, r6, q6⟩
end
structure CalEH (P : Program) (w : World) (K : PySem.W.Frag) (mg : Str → Option Value) (base : Heap) (CX : CXT) (k : Nat) (G : Hp → Prop) (f : Addr) (sp : Sp) : Prop where
  fn : ∀ (h : Heap) (H : Hp), K.In h → HOk P w H h → G H → PySem.W.FnAt f h
  run : ∀ (A : Around) (outer : List Env) (s : Shared) (H : Hp) (us : List Value) (vs : List V) (Q : VK) (E : XK) (p : Addr × Obj), Clean A → RoomH k A → Hot1 A p → PinOk outer H s p → Env0 P w K mg base A outer s H → Vals vs us → G H → sp vs H Q E →
    codeAny (model P w) A (.call (.ref f) ⟨us, []⟩) (CR CX outer P w H s Q E) s
theorem CalEH.mono {P : Program} {w : World} {K : PySem.W.Frag} {mg : Str → Option Value} {base : Heap} {CX : CXT} {k k' : Nat} {G : Hp → Prop} {f : Addr} {sp : Sp} (C : CalEH P w K mg base CX k G f sp) (h : k ≤ k') : CalEH P w K mg base CX k' G f sp :=
  ⟨C.fn, fun A outer s H us vs Q E p hc hr ho hp e0 r g q => C.run A outer s H us vs Q E p hc (hr.mono h) ho hp e0 r g q⟩
theorem CalEH.def {P : Program} {w : World} {K : PySem.W.Frag} {mg : Str → Option Value} {base : Heap} {CX : CXT} {k : Nat} {f : Addr} {fd : FuncData} {ps : List Str} {sp : Sp} {x qual : Str} {st : Stmt} (F : Fun K x qual st f fd) (C : FnGH P w K mg base CX k f fd ps sp) (b : Binds K fd ps []) :
    CalEH P w K mg base CX k (fun _ => True) f sp := by
  obtain ⟨oc, od, kV, doc, pm, an, cdv, ct, osl, efd, lk, hcd⟩ := F.ex
  refine ⟨fun h H kin _ _ => ⟨_, _, _, _, kin _ _ lk⟩, fun A outer s H us vs Q E p hc hr ho hp e0 r _ q => ?_⟩
  have KX : K.In s.heap := e0.mod.kin.keeps fun b o e => (e0.bs b o e).1
  have hl := C.len _ _ _ _ q
  have b2 := b s us KX (by rw [List.append_nil, ← r.length]; exact hl)
  rw [List.append_nil] at b2
  exact C.run A outer s H ⟨us, []⟩ us vs Q E p hc hr ho hp e0 b2 r q
theorem CalEH.lam {P : Program} {w : World} {K : PySem.W.Frag} {mg : Str → Option Value} {base : Heap} {CX : CXT} {k : Nat} {f c' : Addr} {q : Str} {params : Arguments} {body : Expr} {scope : Scope} {N ps : List Str} {sp : Sp} (S : FnScope N ps scope)
    (hb : ∀ (pm ctv : Value) (us : List Value), us.length = ps.length → bindArgs (PySem.W.kla_fn "<lambda>" q params body scope [] pm (.ref c') ctv) ⟨us, []⟩ = pure (ps.zip us)) (len : ∀ vs H Q E, sp vs H Q E → vs.length = ps.length)
    (hbody : ∀ (A : Around) (outer : List Env) (s : Shared) (H : Hp) (vs : List V) (Q : VK) (E : XK) (p : Addr × Obj), Clean A → RoomH k (A.deeper (envOfC q scope s.heap.objs.size f (.ref c'))) → HotC (cxH CX P w K mg base N q scope f (.ref c') A outer s H E p) → sp vs H Q E →
      ∃ t, PE (cxH CX P w K mg base N q scope f (.ref c') A outer s H E p) body t ∧ t (L2.start N vs) H Q) :
    CalEH P w K mg base CX (k + 1) (fun H => H f = some (LamO f c' q params body scope) ∧ H c' = some (LamX.CodeO c' q)) f sp := by
  refine ⟨fun h H _ hok ⟨hf, _⟩ => ?_, fun A outer s H us vs Q E p hc hr ho hp e0 r ⟨hf, hcd⟩ q0 => ?_⟩
  · obtain ⟨⟨pm, ctv, e⟩, _, _⟩ := hok f _ hf
    exact ⟨_, _, _, _, e⟩
  obtain ⟨⟨pm, ctv, hof⟩, _, _⟩ := e0.hok f _ hf
  obtain ⟨⟨oc, vc, t, hoc, hdc, hvc⟩, _, _⟩ := e0.hok c' _ hcd
  have bk : ∀ b o, base.get? b = some o → s.heap.get? b = some o := fun b o e => (e0.bs b o e).1
  have hl := len _ _ _ _ q0
  have hul : us.length = ps.length := by rw [← r.length, hl]
  have hkind : ∀ y ∈ ps.zip us, scope.names.lookup y.1 = some .local ∨ (scope.names.lookup y.1 = some .cell ∧ ((cellsFrom (s.heap.objs.size + 1) scope.names []).lookup y.1).isSome = true) := by
    rintro ⟨n, v⟩ hy
    exact (S.par n (List.of_mem_zip hy).1).imp id fun q => ⟨q, PySem.W.cellsFrom_some _ _ _ (.inl q)⟩
  refine PySem.W.kla_callFunE hr.depth hof rfl S.co S.gen rfl ⟨c', oc, vc, t, rfl, hoc, hdc, hvc⟩ ?_
  rw [hb pm ctv us hul]
  refine wpAny_pure (wpAny_newFunctionEnv_cells S.kind hkind ?_)
  intro env he s1 x
  subst he
  refine ⟨(e0.mod.nolimit.keeps bk).keeps x.toInCall.keep, PySem.W.kla_codeExpr ?_⟩
  obtain ⟨t, ht, hq⟩ := hbody A outer s H vs Q E p hc (hr.deeper _) ⟨p, ho, List.mem_singleton.mpr rfl⟩ q0
  have J : Inv (cxH CX P w K mg base N q scope f (.ref c') A outer s H E p) [] (L2.start N vs) H s1 := inv_startH S hp e0 hl r x
  refine wpAny_mono (ht.run [] s1 (L2.start N vs) H Q J hq) (fun u s' hs => ?_) fun _ _ z => z
  obtain ⟨v, H', J', rv, q⟩ := hs
  exact ⟨v, H', J'.os, J'.bare, J'.base, J'.hok, rv, q⟩
theorem pe_callCEH {X : Cx} {CX : CXT} {E : L2.St → XK} {k i : Nat} {G : Hp → Prop} {f : Addr} {sp : Sp} {x : Str} {p pos : Pos} {e : Expr} {es : List Expr} {t : TA} (hot : HotC X) (C : CalEH X.prog X.w X.K X.mg X.base CX k G f sp) (hc : Clean X.A) (hr : RoomH k X.A) (hN : X.N[i]? = some x) (hv : Vis X.env.scope x)
    (hx : ∀ σ, PassesAt CX X σ (E σ)) (ha : PA X (e :: es) t) (hdb : (x == ("__debug__" : Str)) = false := by decide) (hcd : (x == ("__classdict__" : Str)) = false := by decide)
    (he : starEach (e :: es) X.env = (false, eval e X.env) :: starEach es X.env := by rfl) (hpl : (backTo pos (starEach es X.env)).any (·.1) = false := by rfl) :
    PE X (.Call (.Name x p) (e :: es) [] pos) (fun σ H Q => σ[i]? = some (some (.ref f)) ∧ G H ∧ t σ H fun vs H1 => G H1 ∧ sp vs H1 Q (E σ)) := by
  refine ⟨fun pn s σ H Q I ⟨hs, g, ht⟩ => ?_⟩
  obtain ⟨p0, hot, hp⟩ := hot
  refine wpAny_Call_Name_kw (thn ((pe_var (pos := p) hN hv hdb hcd).run pn s σ H (fun v H1 => v = .ref f ∧ H1 = H) I ⟨.ref f, hs, rfl, rfl⟩) ?_)
  rintro u s1 ⟨_, _, I1, r1, rfl, rfl⟩
  obtain rfl : u = .ref f := r1
  refine PySem.W.callWith_F (C.fn _ _ I1.kIn I1.hok g) (thn (ha.run pos pn s1 σ _ _ I1 ht) ?_) he hpl
  rintro us s2 ⟨vs, H2, I2, r, g2, q⟩
  have P1 := I2.pin p0 (List.mem_append_left _ hp)
  have hpin : PinOk X.stack H2 s2 p0 := ⟨P1.1, P1.2.1, fun hm => (List.mem_cons.mp (I2.stkSub p0.1 hm)).elim P1.2.2.1 P1.2.2.2.1, P1.2.2.2.2⟩
  exact ⟨C.fn _ _ I2.kIn I2.hok g2, wpAny_call (codeAny_mono (C.run X.A X.stack s2 H2 us vs Q (E σ) p0 hc hr hot hpin I2.env0 r g2 q) fun r s' hq => endC (hx σ) I2 hq)⟩
end Gd

set_option maxHeartbeats 1000000
namespace KT
open PySem L2 Gd KM LamX L2H
theorem huH {k : Nat} {A : Around} (r : RoomH k A) : A.units + 1 < cLine := by
  have := r.un
  omega
theorem hotT {X : Cx} {pn : List (Addr × Obj)} {xe : Value → Shared → Prop} (h : HotC X) (s : ∀ q ∈ X.pn, q ∈ pn) : HotC (X.tr pn xe) := let ⟨p, a, b⟩ := h; ⟨p, a, s p b⟩
theorem pss_dead {X : Cx} {l : List Stmt} : PSs X l (fun _ _ _ => False) := ⟨fun _ _ _ _ _ _ h => h.elim⟩
theorem no_fnH {P : Program} {w : World} {K : PySem.W.Frag} {mg : Str → Option Value} {base : Heap} {CX : CXT} {k : Nat} {f : Addr} {fd : FuncData} {ps : List Str} {sp : Sp} (h : ∀ vs H Q E, ¬ sp vs H Q E) : FnGH P w K mg base CX k f fd ps sp :=
  ⟨fun vs H Q E z => absurd z (h vs H Q E), fun A outer s H args us vs Q E p hc hr ho hp e0 hb r z => absurd z (h vs H Q E)⟩
abbrev sM : Str := sSgn 0
/-- a chain of stars that is too deep -/
inductive TBc : Nat → PyData → Int → Int → Prop
  | shut {n : Nat} {d : PyData} {p r : Int} : needsS sM p = true → r ≤ 0 → TBc n (.tuple [.str sM, d]) p r
  | emp {n : Nat} {p r : Int} : needsS sEmpty p = true → r ≤ 0 → TBc n (.tuple [.str sEmpty]) p r
  | par {n : Nat} {d : PyData} {p r : Int} : needsS sM p = true → 0 < r → TBc n (.tuple [.str sM, d]) 0 (r - 1) → TBc (n + 1) (.tuple [.str sM, d]) p r
  | sgn {n : Nat} {d : PyData} {p r : Int} : needsS sM p = false → TBc n d 3 r → TBc (n + 1) (.tuple [.str sM, d]) p r
/-- room is left for nothing -/
def spTC (K : PySem.W.Frag) (m : Nat) : Sp := fun vs H Q _ => ∃ (v : V) (d : PyData) (p r : Int) (n : Nat), vs = [v, .int p, .int r] ∧ Db K H v d ∧ TBc n d p r ∧ n < m ∧ ∀ H', Same H H' → Q (.bl false) H'
def spIsTreeC (K : PySem.W.Frag) : Sp := fun vs H Q _ => ∃ (v : V) (d : PyData) (n : Nat), vs = [v] ∧ Db K H v d ∧ TBc n d 0 20 ∧ n < 128 ∧ ∀ H', Same H H' → Q (.bl false) H'
def spNoBc (K : PySem.W.Frag) (C : Addr) : Sp := fun vs H _ E => ∃ (v : V) (d : PyData) (n : Nat), vs = [v] ∧ Db K H v d ∧ TBc n d 0 20 ∧ n < 128 ∧ ∀ e H', Same H H' → H' e = none → E (.ref C) (some e) (upd H' e (.xd [("value", v)]))
def spNoWc (K : PySem.W.Frag) (C : Addr) : Sp := fun vs H _ E => ∃ (v z : V) (d : PyData) (n : Nat), vs = [v, z] ∧ Db K H v d ∧ TBc n d 0 20 ∧ n < 128 ∧ ∀ e H', Same H H' → H' e = none → E (.ref C) (some e) (upd H' e (.xd [("value", v)]))
section
variable {P : Program} {w : World} {K : PySem.W.Frag} {mg : Str → Option Value} {base : Heap} {aS aL C_T f_T C_Y f_Y : Addr} {es : Array DictEntry} {n : Nat}
theorem ok_needsH {f : Addr} {fd : FuncData} (F : Fun K "needs_parentheses" "needs_parentheses" sneeds_parentheses f fd) (T : Txt w K mg base aS aL es n) : FnGH P w K mg base CX0 1 f fd ["kind", "place"] spNeedsS := by
  refine okGH F scneeds_parentheses (fun vs H Q E h => ?_) (fun cdv A outer s H vs Q E p0 hc hr hot hcd h => ?_)
  · obtain ⟨x, p, rfl, _⟩ := h
    rfl
  obtain ⟨x, p, rfl, hx, q⟩ := h
  refine ⟨_, (pss_cons (ps_if (pt_cmpR op_eq (pv 0) pe_str (nomark _))
  (pss_one (ps_ret (pe_cmpR op_ge (pv 1) (pe_k (by rfl) T.g_ROW) (nomark _)))) pss_nil)
 (pss_cons (ps_if (PW.pt (pw_or (pt_cmpR op_eq (pv 0) pe_str (nomark _)) (pw_or1 (pt_cmpR op_eq (pv 0) pe_str (nomark _)))))
  (pss_one (ps_ret (pe_cmpR op_ge (pv 1) (pe_k (by rfl) T.g_ITEM) (nomark _)))) pss_nil)
 (pss_one (ps_ret (pe_and (pe_cmpR (op_in_kd T.d_SIGNS_BY_KIND) (pv 0) (pe_k (by rfl) T.g_SIGNS_BY_KIND) (by rfl)) (pe_one (pe_cmpR op_eq (pv 1) (pe_k (by rfl) T.g_OPERAND) (nomark _)))))))), ?_⟩
  obtain ⟨r, hr1, hr2⟩ := sgn_at T hx
  unfold needsS at q
  refine ⟨_, rfl, rfl, _, rfl, ?_⟩
  rw [strEq]
  refine iteB (fun c => ?_) (fun c => ?_)
  · rw [if_pos (of_decide_eq_true c)] at q
    exact ⟨_, rfl, _, _, rfl, rfl, q⟩
  rw [if_neg (of_decide_eq_false c)] at q
  refine ⟨_, rfl, rfl, _, rfl, ?_⟩
  rw [strEq]
  refine iteB (fun c2 => ?_) (fun c2 => ?_)
  · rw [if_pos (.inl (of_decide_eq_true c2))] at q
    exact iteT ⟨_, rfl, _, _, rfl, rfl, q⟩
  refine ⟨_, rfl, rfl, _, rfl, ?_⟩
  rw [strEq]
  refine iteB (fun c3 => ?_) (fun c3 => ?_)
  · rw [if_pos (.inr (of_decide_eq_true c3))] at q
    exact ⟨_, rfl, _, _, rfl, rfl, q⟩
  rw [if_neg (fun z => z.elim (of_decide_eq_false c2) (of_decide_eq_false c3))] at q
  refine ⟨_, rfl, _, r, rfl, rfl, hr1, _, rfl, ?_⟩
  rw [hr2]
  refine iteB (fun c4 => ?_) (fun c4 => ?_)
  · rw [c4, Bool.true_and] at q
    refine ⟨_, rfl, rfl, ?_⟩
    have e3 : decide (V.int p = V.int 3) = decide (p = 3) := decide_eq_decide.mpr ⟨fun z => by injection z, fun z => by rw [z]⟩
    rw [e3]
    exact q
  · rw [c4, Bool.false_and] at q
    exact q
theorem ok_placeH {f : Addr} {fd : FuncData} (F : Fun K "place_inside" "place_inside" splace_inside f fd) (T : Txt w K mg base aS aL es n) : FnGH P w K mg base CX0 1 f fd ["kind"] spPlaceS := by
  refine okGH F scplace_inside (fun vs H Q E h => ?_) (fun cdv A outer s H vs Q E p0 hc hr hot hcd h => ?_)
  · obtain ⟨x, rfl, _⟩ := h
    rfl
  obtain ⟨x, rfl, q⟩ := h
  refine ⟨_, (pss_cons (ps_if (pt_cmpR op_eq (pv 0) pe_str (nomark _))
  (pss_one (ps_ret (pe_k (by rfl) T.g_ROW))) pss_nil)
 (pss_cons (ps_if (pt_cmpR op_eq (pv 0) pe_str (nomark _))
  (pss_one (ps_ret (pe_k (by rfl) T.g_ITEM))) pss_nil)
 (pss_one (ps_ret (pe_k (by rfl) T.g_OPERAND))))), ?_⟩
  unfold placeS at q
  refine ⟨_, rfl, rfl, _, rfl, ?_⟩
  rw [strEq]
  refine iteB (fun c => ?_) (fun c => ?_)
  · rw [if_pos (of_decide_eq_true c)] at q
    exact q
  rw [if_neg (of_decide_eq_false c)] at q
  refine ⟨_, rfl, rfl, _, rfl, ?_⟩
  rw [strEq]
  refine iteB (fun c2 => ?_) (fun c2 => ?_)
  · rw [if_pos (of_decide_eq_true c2)] at q
    exact q
  rw [if_neg (of_decide_eq_false c2)] at q
  exact q
theorem ok_treeatH {f f1 f2 f3 f4 f5 f6 : Addr} {fd fd1 fd2 fd3 fd4 fd5 fd6 : FuncData} {m : Nat} (F : Fun K "is_tree_at" "is_tree_at" sis_tree_at f fd) (T : Txt w K mg base aS aL es n)
    (D_is_letter : DfH P w K mg base CX0 1 "is_letter" f1 fd1 ["value"] spZ) (D_is_name : DfH P w K mg base CX0 2 "is_name" f2 fd2 ["value"] spZ)
    (D_needs_parentheses : DfH P w K mg base CX0 1 "needs_parentheses" f3 fd3 ["kind", "place"] spNeedsS) (D_place_inside : DfH P w K mg base CX0 1 "place_inside" f4 fd4 ["kind"] spPlaceS)
    (D_are_trees_at : DfH P w K mg base CX0 (2 + m) "are_trees_at" f5 fd5 ["value", "place", "room"] spZ) (D_is_tree_at : DfH P w K mg base CX0 (2 + m) "is_tree_at" f6 fd6 ["value", "place", "room"] (spTC K m)) :
    FnGH P w K mg base CX0 (2 + m + 1) f fd ["value", "place", "room"] (spTC K (m + 1)) := by
  refine okGH (k := 2 + m) F scis_tree_at (fun vs H Q E h => ?_) (fun cdv A outer s H vs Q E p0 hc hr hot hcd h => ?_)
  · obtain ⟨v, d, p, r, n, rfl, _⟩ := h
    rfl
  obtain ⟨v, d, p, r, n, rfl, hd, tb, hm, q⟩ := h
  refine ⟨_, (pss_cons (ps_if (PW.pt (pw_or (pt_not (pt_val (pe_callB call_isk (by rfl) T.z_isinstance (by decide +kernel) (pa_cons (pv 0) (pa_cons (pe_bltn (v := .ty "tuple") (by rfl) T.z_tuple (by decide +kernel) rfl) pa_nil))))) (pw_or (pt_cmpR op_eq (pe_callB call_len_seq (by rfl) T.z_len (by decide +kernel) (pa_cons (pv 0) pa_nil)) pe_int (nomark _)) (pw_or1 (pt_not (pt_val (pe_callB call_isk (by rfl) T.z_isinstance (by decide +kernel) (pa_cons (pe_ix ix_tup (pv 0) pe_int (fun _ _ => rfl)) (pa_cons (pe_bltn (v := .ty "str") (by rfl) T.z_str (by decide +kernel) rfl) pa_nil)))))))))
  (pss_one (ps_ret pe_bl)) pss_nil)
 (pss_cons (ps_set (i := 3) scis_tree_at.nd rfl (Or.inl rfl) (pe_ix ix_tup (pv 0) pe_int (fun _ _ => rfl)))
 (pss_cons (ps_if (pt_val (pe_dH hot D_needs_parentheses hc (hr.mono (by omega)) (by rfl) (fun _ => passN) (pa_cons (pv 3) (pa_cons (pv 1) pa_nil))))
  (pss_one (ps_ret (pe_and (pe_cmpR op_gt (pv 2) pe_int (nomark _)) (pe_one (pe_dH hot D_is_tree_at hc (hr.mono (by omega)) (by rfl) (fun _ => passN) (pa_cons (pv 0) (pa_cons (pe_k (by rfl) T.g_WHOLE) (pa_cons (pe_op op_sub (pv 2) pe_int) pa_nil)))))))) pss_nil)
 (pss_cons (ps_if (PW.pt (pw_or (pt_cmpR op_eq (pv 3) pe_str (nomark _)) (pw_or1 (pt_cmpR op_eq (pv 3) pe_str (nomark _)))))
  (pss_one (ps_ret (pe_cmpR op_eq (pe_callB call_len_seq (by rfl) T.z_len (by decide +kernel) (pa_cons (pv 0) pa_nil)) pe_int (nomark _)))) pss_nil)
 (pss_cons (ps_if (pt_cmpR op_ne (pe_callB call_len_seq (by rfl) T.z_len (by decide +kernel) (pa_cons (pv 0) pa_nil)) pe_int (nomark _))
  (pss_one (ps_ret pe_bl)) pss_nil)
 (pss_cons (ps_if (pt_cmpR op_eq (pv 3) pe_str (nomark _))
  (pss_one (ps_ret (pe_dH hot D_is_letter hc (hr.mono (by omega)) (by rfl) (fun _ => passN) (pa_cons (pe_ix ix_tup (pv 0) pe_int (fun _ _ => rfl)) pa_nil)))) pss_nil)
 (pss_cons (ps_if (pt_cmpR op_eq (pv 3) pe_str (nomark _))
  (pss_one (ps_ret (pe_dH hot D_is_name hc (hr.mono (by omega)) (by rfl) (fun _ => passN) (pa_cons (pe_ix ix_tup (pv 0) pe_int (fun _ _ => rfl)) pa_nil)))) pss_nil)
 (pss_cons (ps_if (pt_cmpR (op_in_kd T.d_SIGNS_BY_KIND) (pv 3) (pe_k (by rfl) T.g_SIGNS_BY_KIND) (by rfl))
  (pss_one (ps_ret (pe_dH hot D_is_tree_at hc (hr.mono (by omega)) (by rfl) (fun _ => passN) (pa_cons (pe_ix ix_tup (pv 0) pe_int (fun _ _ => rfl)) (pa_cons (pe_dH hot D_place_inside hc (hr.mono (by omega)) (by rfl) (fun _ => passN) (pa_cons (pv 3) pa_nil)) (pa_cons (pv 2) pa_nil)))))) pss_nil)
 (pss_one (ps_ret (pe_and (pe_cmpR op_in_seq (pv 3) (pe_k (by rfl) T.g_LISTED) (by rfl)) (pe_one (pe_dH hot D_are_trees_at hc (hr.mono (by omega)) (by rfl) (fun _ => passN) (pa_cons (pe_ix ix_tup (pv 0) pe_int (fun _ _ => rfl)) (pa_cons (pe_dH hot D_place_inside hc (hr.mono (by omega)) (by rfl) (fun _ => passN) (pa_cons (pv 3) pa_nil)) (pa_cons (pv 2) pa_nil)))))))))))))))), ?_⟩
  have sz := sizeLine_eq
  have kx : sM ∈ kds := by decide +kernel
  by_cases em : d = .tuple [.str sEmpty]
  · have e : needsS sEmpty p = true ∧ r ≤ 0 := by
      cases tb with
      | emp a b => exact ⟨a, b⟩
      | shut _ _ => injection em with em; injection em with em _; injection em with em; exact absurd em (by decide +kernel)
      | par _ _ _ => injection em with em; injection em with em _; injection em with em; exact absurd em (by decide +kernel)
      | sgn _ _ => injection em with em; injection em with em _; injection em with em; exact absurd em (by decide +kernel)
    subst em
    refine ⟨_, rfl, v, "tuple", rfl, .inr (.inr (.inr (.inr (.inl rfl)))), hd.pv, _, rfl, ?_⟩
    rw [hd.tuped]
    cases hd with
    | tup ha hl =>
    rename_i a xs
    have hq := SqT.of (K := K) ha
    cases hl with
    | cons h1 hl =>
    cases h1
    cases hl
    refine iteF ⟨_, rfl, a, _, rfl, .inr hq, rfl, _, rfl, ?_⟩
    refine iteB (fun c => absurd (show decide (V.int ((1 : Nat) : Int) = V.int 0) = true from c) (by decide +kernel)) (fun _ => ?_)
    refine ⟨_, rfl, a, _, _, _, rfl, rfl, hq, atI_nat (j := 0) rfl, .str sEmpty, "str", rfl, .inr (.inl rfl), (fun z => nomatch z), _, rfl, ?_⟩
    refine iteB (fun c => absurd (show (!inst "str" Kind.str) = true from c) (by decide +kernel)) (fun _ => ?_)
    refine ⟨_, rfl, a, _, _, _, rfl, rfl, hq, atI_nat (j := 0) rfl, ?_⟩
    refine ⟨_, rfl, _, rfl, sEmpty, p, rfl, by decide +kernel, _, rfl, ?_⟩
    rw [e.1]
    have e0 : decide (0 < r) = false := decide_eq_false (by omega)
    refine iteT ⟨_, rfl, _, _, rfl, rfl, _, rfl, ?_⟩
    rw [e0]
    exact iteF (q _ (Same.refl H))
  obtain ⟨d1, rfl, cs⟩ : ∃ d1, d = .tuple [.str sM, d1] ∧ ((needsS sM p = true ∧ (r ≤ 0 ∨ (0 < r ∧ ∃ k, n = k + 1 ∧ TBc k (.tuple [.str sM, d1]) 0 (r - 1)))) ∨ (needsS sM p = false ∧ ∃ k, n = k + 1 ∧ TBc k d1 3 r)) := by
    cases tb with
    | shut a b => exact ⟨_, rfl, .inl ⟨a, .inl b⟩⟩
    | emp _ _ => exact absurd rfl em
    | par a b c => exact ⟨_, rfl, .inl ⟨a, .inr ⟨b, _, rfl, c⟩⟩⟩
    | sgn a b => exact ⟨_, rfl, .inr ⟨a, _, rfl, b⟩⟩
  have kt := hd.tuped
  refine ⟨_, rfl, v, "tuple", rfl, .inr (.inr (.inr (.inr (.inl rfl)))), hd.pv, _, rfl, ?_⟩
  rw [kt]
  cases hd with
  | tup ha hl =>
  rename_i a xs
  have hq := SqT.of (K := K) ha
  cases hl with
  | cons h1 hl =>
  cases h1
  cases hl with
  | cons h2 hl =>
  cases hl
  rename_i v2
  refine iteF ⟨_, rfl, a, _, rfl, .inr hq, rfl, _, rfl, ?_⟩
  refine iteB (fun c => absurd (show decide (V.int ((2 : Nat) : Int) = V.int 0) = true from c) (by decide +kernel)) (fun _ => ?_)
  refine ⟨_, rfl, a, _, _, _, rfl, rfl, hq, atI_nat (j := 0) rfl, .str sM, "str", rfl, .inr (.inl rfl), (fun z => nomatch z), _, rfl, ?_⟩
  refine iteB (fun c => absurd (show (!inst "str" Kind.str) = true from c) (by decide +kernel)) (fun _ => ?_)
  refine ⟨_, rfl, a, _, _, _, rfl, rfl, hq, atI_nat (j := 0) rfl, ?_⟩
  refine ⟨_, rfl, _, rfl, sM, p, rfl, kx, _, rfl, ?_⟩
  rcases cs with ⟨e, cs⟩ | ⟨e, k, rfl, t⟩
  · rw [e]
    refine iteT ⟨_, rfl, _, _, rfl, rfl, _, rfl, ?_⟩
    rcases cs with l | ⟨l, k, rfl, t⟩
    · have e0 : decide (0 < r) = false := decide_eq_false (by omega)
      rw [e0]
      exact iteF (q _ (Same.refl H))
    · have e0 : decide (0 < r) = true := decide_eq_true l
      rw [e0]
      exact iteT ⟨_, rfl, _, rfl, _, _, rfl, rfl, .ref a, _, 0, r - 1, k, rfl, .tup ha (.cons (.str sM) (.cons h2 .nil)), t, by omega, q⟩
  rw [e]
  obtain ⟨rs, hr1, hr2⟩ := sgn_at T kx
  have e1 : isSgnS sM = true := by decide +kernel
  have e2 : placeS sM = 3 := by decide +kernel
  refine iteF ⟨_, rfl, rfl, _, rfl, ?_⟩
  rw [strEq]
  refine iteB (fun c => absurd (of_decide_eq_true c) (by decide +kernel)) (fun _ => ⟨_, rfl, rfl, _, rfl, ?_⟩)
  rw [strEq]
  refine iteB (fun c => absurd (of_decide_eq_true c) (by decide +kernel)) (fun _ => ⟨_, rfl, a, _, rfl, .inr hq, rfl, _, rfl, ?_⟩)
  refine iteB (fun c => absurd (show (!decide (V.int ((2 : Nat) : Int) = V.int 2)) = true from c) (by decide +kernel)) (fun _ => ?_)
  refine ⟨_, rfl, rfl, _, rfl, ?_⟩
  rw [strEq]
  refine iteB (fun c => absurd (of_decide_eq_true c) (by decide +kernel)) (fun _ => ⟨_, rfl, rfl, _, rfl, ?_⟩)
  rw [strEq]
  refine iteB (fun c => absurd (of_decide_eq_true c) (by decide +kernel)) (fun _ => ?_)
  refine ⟨_, rfl, _, rs, rfl, rfl, hr1, _, rfl, ?_⟩
  rw [hr2, e1]
  exact iteT ⟨_, rfl, a, _, _, _, rfl, rfl, hq, atI_nat (j := 1) rfl, _, rfl, _, rfl, _, rfl, _, d1, placeS sM, r, k, rfl, h2, by rw [e2]; exact t, by omega, q⟩
end
end KT

namespace KT
open PySem L2 Gd KM LamX L2H
section
variable {P : Program} {w : World} {K : PySem.W.Frag} {mg : Str → Option Value} {base : Heap} {aS aL C_T f_T C_Y f_Y : Addr} {es : Array DictEntry} {n : Nat}
theorem all_tbH {f13 f14 f0 f2 f10 f11 : Addr} {fd13 fd14 fd0 fd2 fd10 fd11 : FuncData} (F13 : Fun K "is_tree_at" "is_tree_at" sis_tree_at f13 fd13) (T : Txt w K mg base aS aL es n)
    (D0 : DfH P w K mg base CX0 1 "is_letter" f0 fd0 ["value"] spZ) (D2 : DfH P w K mg base CX0 2 "is_name" f2 fd2 ["value"] spZ) (D10 : DfH P w K mg base CX0 1 "needs_parentheses" f10 fd10 ["kind", "place"] spNeedsS) (D11 : DfH P w K mg base CX0 1 "place_inside" f11 fd11 ["kind"] spPlaceS)
    (d13 : ∀ sp k, FnGH P w K mg base CX0 k f13 fd13 ["value", "place", "room"] sp → DfH P w K mg base CX0 k "is_tree_at" f13 fd13 ["value", "place", "room"] sp) (d14 : ∀ k, DfH P w K mg base CX0 k "are_trees_at" f14 fd14 ["value", "place", "room"] spZ) :
    ∀ m, FnGH P w K mg base CX0 (2 + m) f13 fd13 ["value", "place", "room"] (spTC K m)
  | 0 => no_fnH fun vs H Q E ⟨_, _, _, _, _, _, _, _, h, _⟩ => absurd h (Nat.not_lt_zero _)
  | m + 1 => ok_treeatH F13 T D0 D2 D10 D11 (d14 _) (d13 _ _ (all_tbH F13 T D0 D2 D10 D11 d13 d14 m))
theorem ok_istreeH {f f1 : Addr} {fd fd1 : FuncData} (F : Fun K "is_tree" "is_tree" sis_tree f fd) (T : Txt w K mg base aS aL es n)
    (D_is_tree_at : DfH P w K mg base CX0 130 "is_tree_at" f1 fd1 ["value", "place", "room"] (spTC K 128)) : FnGH P w K mg base CX0 131 f fd ["value"] (spIsTreeC K) := by
  refine okGH F scis_tree (fun vs H Q E h => ?_) (fun cdv A outer s H vs Q E p0 hc hr hot hcd h => ?_)
  · obtain ⟨v, d, n, rfl, _⟩ := h
    rfl
  obtain ⟨v, d, n, rfl, hd, tb, hn, q⟩ := h
  refine ⟨_, (pss_one (ps_ret (pe_dH hot D_is_tree_at hc (hr.mono (by omega)) (by rfl) (fun _ => passN) (pa_cons (pv 0) (pa_cons (pe_k (by rfl) T.g_WHOLE) (pa_cons (pe_k (by rfl) T.g_MOST_OPEN) pa_nil)))))), ?_⟩
  exact ⟨_, rfl, v, d, 0, 20, n, rfl, hd, tb, hn, q⟩
theorem ok_requireH {f f1 : Addr} {fd fd1 : FuncData} (F : Fun K "require_tree" "require_tree" srequire_tree f fd) (TE : PySem.EzValue.LowTxt K mg "InvalidTree" "InvalidTree.__init__" C_T f_T)
    (D_is_tree : DfH P w K mg base CX0 131 "is_tree" f1 fd1 ["value"] (spIsTreeC K)) : FnGH P w K mg base (L2.CX P w) 132 f fd ["value"] (spNoBc K C_T) := by
  refine okGH F screquire_tree (fun vs H Q E h => ?_) (fun cdv A outer s H vs Q E p0 hc hr hot hcd h => ?_)
  · obtain ⟨v, d, n, rfl, _⟩ := h
    rfl
  obtain ⟨v, d, n, rfl, hd, tb, hn, q2⟩ := h
  refine ⟨_, (pss_one (ps_if (pt_not (pt_val (pe_dH hot D_is_tree hc (hr.mono (by omega)) (by rfl) (fun _ => passN) (pa_cons (pv 0) pa_nil))))
  (pss_one (ps_raise_valueH hot TE (roomH1 hr) (takes_of rfl rfl rfl rfl) (pa_cons (pv 0) pa_nil))) pss_nil)), ?_⟩
  refine ⟨_, rfl, v, d, n, rfl, hd, tb, hn, fun H1 s1 => ⟨_, rfl, ?_⟩⟩
  exact iteT ⟨_, rfl, v, rfl, fun e he => q2 e H1 s1 he⟩
theorem ok_expression_textH {f f1 : Addr} {fd fd1 : FuncData} (F : Fun K "expression_text" "expression_text" sexpression_text f fd) (D_require_tree : DfH P w K mg base (L2.CX P w) 132 "require_tree" f1 fd1 ["value"] (spNoBc K C_T)) : FnGH P w K mg base (L2.CX P w) 133 f fd ["tree"] (spNoBc K C_T) := by
  refine okGH F scexpression_text (fun vs H Q E h => ?_) (fun cdv A outer s H vs Q E p0 hc hr hot hcd h => ?_)
  · obtain ⟨v, d, n, rfl, _⟩ := h
    rfl
  obtain ⟨v, d, n, rfl, hd, tb, hn, q⟩ := h
  refine ⟨_, pss_cons (ps_expr (pe_dH hot D_require_tree hc (hr.mono (by omega)) (by rfl) (fun σ => passAt (takes_of rfl rfl rfl rfl) σ) (pa_cons (pv 0) pa_nil))) pss_dead, ?_⟩
  exact ⟨_, rfl, v, d, n, rfl, hd, tb, hn, q⟩
theorem ok_letters_ofH {f f1 : Addr} {fd fd1 : FuncData} (F : Fun K "letters_of" "letters_of" sletters_of f fd) (D_require_tree : DfH P w K mg base (L2.CX P w) 132 "require_tree" f1 fd1 ["value"] (spNoBc K C_T)) : FnGH P w K mg base (L2.CX P w) 133 f fd ["tree"] (spNoBc K C_T) := by
  refine okGH F scletters_of (fun vs H Q E h => ?_) (fun cdv A outer s H vs Q E p0 hc hr hot hcd h => ?_)
  · obtain ⟨v, d, n, rfl, _⟩ := h
    rfl
  obtain ⟨v, d, n, rfl, hd, tb, hn, q⟩ := h
  refine ⟨_, pss_cons (ps_expr (pe_dH hot D_require_tree hc (hr.mono (by omega)) (by rfl) (fun σ => passAt (takes_of rfl rfl rfl rfl) σ) (pa_cons (pv 0) pa_nil))) pss_dead, ?_⟩
  exact ⟨_, rfl, v, d, n, rfl, hd, tb, hn, q⟩
theorem ok_names_ofH {f f1 : Addr} {fd fd1 : FuncData} (F : Fun K "names_of" "names_of" snames_of f fd) (D_require_tree : DfH P w K mg base (L2.CX P w) 132 "require_tree" f1 fd1 ["value"] (spNoBc K C_T)) : FnGH P w K mg base (L2.CX P w) 133 f fd ["tree"] (spNoBc K C_T) := by
  refine okGH F scnames_of (fun vs H Q E h => ?_) (fun cdv A outer s H vs Q E p0 hc hr hot hcd h => ?_)
  · obtain ⟨v, d, n, rfl, _⟩ := h
    rfl
  obtain ⟨v, d, n, rfl, hd, tb, hn, q⟩ := h
  refine ⟨_, pss_cons (ps_expr (pe_dH hot D_require_tree hc (hr.mono (by omega)) (by rfl) (fun σ => passAt (takes_of rfl rfl rfl rfl) σ) (pa_cons (pv 0) pa_nil))) pss_dead, ?_⟩
  exact ⟨_, rfl, v, d, n, rfl, hd, tb, hn, q⟩
theorem ok_withH {f f1 : Addr} {fd fd1 : FuncData} (F : Fun K "with_names" "with_names" swith_names f fd) (D_require_tree : DfH P w K mg base (L2.CX P w) 132 "require_tree" f1 fd1 ["value"] (spNoBc K C_T)) : FnGH P w K mg base (L2.CX P w) 133 f fd ["tree", "table"] (spNoWc K C_T) := by
  refine okGH F scwith_names (fun vs H Q E h => ?_) (fun cdv A outer s H vs Q E p0 hc hr hot hcd h => ?_)
  · obtain ⟨v, z, d, n, rfl, _⟩ := h
    rfl
  obtain ⟨v, z, d, n, rfl, hd, tb, hn, q⟩ := h
  refine ⟨_, pss_cons (ps_expr (pe_dH hot D_require_tree hc (hr.mono (by omega)) (by rfl) (fun σ => passAt (takes_of rfl rfl rfl rfl) σ) (pa_cons (pv 0) pa_nil))) pss_dead, ?_⟩
  exact ⟨_, rfl, v, d, n, rfl, hd, tb, hn, q⟩
theorem cal1H {f c' f1 : Addr} {fd1 : FuncData} (D_with_names : DfH P w K mg base (L2.CX P w) 133 "with_names" f1 fd1 ["tree", "table"] (spNoWc K C_T)) : CalEH P w K mg base (L2.CX P w) 134 (gL eL1 f c') f (spNoBc K C_T) := by
  refine CalEH.lam scL1 (fun pm ctv us hl => match us, hl with | [_], _ => rfl) (fun vs H Q E h => ?_) (fun A outer s H vs Q E p0 hc hr hot h => ?_)
  · obtain ⟨v, d, n, rfl, _⟩ := h
    rfl
  obtain ⟨v, d, n, rfl, hd, tb, hn, q⟩ := h
  refine ⟨_, pe_dH hot D_with_names hc (hr.mono (by omega)) (by rfl) (fun σ => passAt (takes_of rfl rfl rfl rfl) σ) (pa_cons (pv 0) (pa_cons pe_dnewK pa_nil)), ?_⟩
  refine ⟨_, rfl, fun p hp => ⟨v, .ref p, d, n, rfl, hd.same (same_new hp), tb, hn, fun e H' s he => q e H' ((same_new hp).trans s) he⟩⟩
theorem cal2H {f c' f1 : Addr} {fd1 : FuncData} (D_with_names : DfH P w K mg base (L2.CX P w) 133 "with_names" f1 fd1 ["tree", "table"] (spNoWc K C_T)) : CalEH P w K mg base (L2.CX P w) 134 (gL eL2 f c') f (spNoBc K C_T) := by
  refine CalEH.lam scL2 (fun pm ctv us hl => match us, hl with | [_], _ => rfl) (fun vs H Q E h => ?_) (fun A outer s H vs Q E p0 hc hr hot h => ?_)
  · obtain ⟨v, d, n, rfl, _⟩ := h
    rfl
  obtain ⟨v, d, n, rfl, hd, tb, hn, q⟩ := h
  refine ⟨_, pe_dH hot D_with_names hc (hr.mono (by omega)) (by rfl) (fun σ => passAt (takes_of rfl rfl rfl rfl) σ) (pa_cons (pv 0) (pa_cons pe_int pa_nil)), ?_⟩
  exact ⟨_, rfl, v, .int 7, d, n, rfl, hd, tb, hn, q⟩
def spRaisedH (P : Program) (w : World) (K : PySem.W.Frag) (mg : Str → Option Value) (base : Heap) (C_T : Addr) : Sp := fun vs H Q _ => ∃ (f2 : Addr) (G : Hp → Prop) (v : V), vs = [.ref f2, v] ∧ G H ∧
  (CalEH P w K mg base (L2.CX P w) 134 G f2 (spNoBc K C_T) ∧ ∃ (d : PyData) (n : Nat), Db K H v d ∧ TBc n d 0 20 ∧ n < 128 ∧ ∀ l H', Same H H' → H l = none → H' l = some (.lst [.str "tree", v]) → Q (.ref l) H')
theorem ok_raisedH {f : Addr} {fd : FuncData} (F : Fun K "_law_raised" "_law_raised" s_law_raised f fd) (T : Txt w K mg base aS aL es n) (TE : PySem.EzValue.LowTxt K mg "InvalidTree" "InvalidTree.__init__" C_T f_T) (TY : PySem.EzValue.LowTxt K mg "InvalidText" "InvalidText.__init__" C_Y f_Y) (U : Uni K C_T C_Y) :
    FnGH P w K mg base CX0 135 f fd ["_law_ask", "_law_value"] (spRaisedH P w K mg base C_T) := by
  refine okGH F sc_law_raised (fun vs H Q E h => ?_) (fun cdv A outer s H vs Q E p0 hc hr hot hcd h => ?_)
  · obtain ⟨f2, G, v, rfl, _⟩ := h
    rfl
  obtain ⟨f2, G, v, rfl, g, h⟩ := h
  have z2 : 2 ≤ sizeLine := by decide
  obtain ⟨CE, d, n, hd, tb, hn, q⟩ := h
  refine ⟨_, (pss_one (ps_tryTwoH (i := 2) rfl rfl sc_law_raised.nd rfl rfl ⟨rfl, by decide, .inl TE.gC⟩ ⟨rfl, by decide, .inl TY.gC⟩ (fun W pn xe sb tk _ => (pss_cons (ps_expr (pe_callCEH (i := 0) (hotT hot sb) CE hc (hr.mono (by omega)) rfl (.inl rfl) (fun σ => passAt tk σ) (pa_cons (pv 1) pa_nil)))
 (pss_one (ps_ret pe_str)))) (fun a oe cls d pn hz hf => (pss_one (ps_ret (pe_lst (pa_cons (pe_ifExp (pt_val (pe_callB (call_isS hz hf) (by rfl) T.z_isinstance (by decide +kernel) (pa_cons (pv 2) (pa_cons (pe_k (by rfl) ⟨_, TY.gC, (show RelV (.ref C_Y) (.ref C_Y) from rfl)⟩) pa_nil)))) pe_str pe_str) (pa_cons (pe_by2 TE TY hz hf (pv 2)) pa_nil)))))))), ?_⟩
  refine ⟨rfl, g, _, rfl, g, v, d, n, rfl, hd, tb, hn, fun e H1 s1 he => ?_⟩
  refine ⟨U.at', fun a ha => ?_⟩
  refine ⟨_, rfl, _, _, _, _, _, rfl, rfl, rfl, upd_same, U.xt, U.kt, _, rfl, iteF ?_⟩
  exact ⟨_, rfl, rfl, .inl rfl, e, v, rfl, upd_same, z2, fun p hp => q p _ ((same_xd s1 he).trans (same_new hp)) (free_xd s1 hp he) upd_same⟩
end
end KT

namespace KT
open PySem L2 Gd KM LamX L2H
theorem defKH {P : Program} {w : World} {K : PySem.W.Frag} {mg : Str → Option Value} {base : Heap} {CX : CXT} {k : Nat} {x : Str} {f : Addr} {fd : FuncData} {ps : List Str} {sp : Sp} (D : DfH P w K mg base CX k x f fd ps sp) : ∃ u, mg x = some u ∧ RelV (.ref f) u := ⟨_, D.m, rfl⟩
section
variable {P : Program} {w : World} {K : PySem.W.Frag} {mg : Str → Option Value} {base : Heap} {aS aL C_T f_T C_Y f_Y : Addr} {es : Array DictEntry} {n : Nat}
def spRefusedH (K : PySem.W.Frag) (Pt : Addr) : Sp := fun vs H Q _ => ∃ (v : V) (d : PyData) (n : Nat), vs = [v] ∧ Db K H v d ∧ (∃ ds, d = .tuple ds) ∧ TBc n d 0 20 ∧ n < 128 ∧ Ok1 d ∧ wid d ≤ 100000 ∧ d.depth ≤ 200 ∧ TabS H Pt qL ∧ ∀ H', ExtN H H' → TabS H' Pt qL → Q (.bl true) H'
theorem ok_refusedH {f c Pt f1 f2 f3 f4 f5 f6 : Addr} {fd fd1 fd2 fd3 fd4 fd5 fd6 : FuncData} (F : Fun K "_law_refused" "_law_refused" s_law_refused f fd) (T : Txt w K mg base aS aL es n) (TB : TabB base mg c Pt) (zd : mg "dict" = none) (hcode : fd.code = .ref c)
    (CE2 : CalEH P w K mg base (L2.CX P w) 134 (fun _ => True) f2 (spNoBc K C_T)) (CE3 : CalEH P w K mg base (L2.CX P w) 134 (fun _ => True) f3 (spNoBc K C_T)) (CE4 : CalEH P w K mg base (L2.CX P w) 134 (fun _ => True) f4 (spNoBc K C_T)) (D_with_names : DfH P w K mg base (L2.CX P w) 133 "with_names" f5 fd5 ["tree", "table"] (spNoWc K C_T))
    (D_is_tree : DfH P w K mg base CX0 131 "is_tree" f1 fd1 ["value"] (spIsTreeC K)) (D_expression_text : DfH P w K mg base (L2.CX P w) 133 "expression_text" f2 fd2 ["tree"] (spNoBc K C_T)) (D_letters_of : DfH P w K mg base (L2.CX P w) 133 "letters_of" f3 fd3 ["tree"] (spNoBc K C_T)) (D_names_of : DfH P w K mg base (L2.CX P w) 133 "names_of" f4 fd4 ["tree"] (spNoBc K C_T))
    (D__law_raised : DfH P w K mg base CX0 135 "_law_raised" f6 fd6 ["_law_ask", "_law_value"] (spRaisedH P w K mg base C_T)) :
    FnGH P w K mg base CX0 136 f fd ["_law_value"] (spRefusedH K Pt) := by
  refine okGH F sc_law_refused (fun vs H Q E h => ?_) (fun cdv A outer s H vs Q E p0 hc hr hot hcd h => ?_)
  · obtain ⟨v, d, n, rfl, _⟩ := h
    rfl
  obtain ⟨v, d, n, rfl, hd, ⟨ds0, hds⟩, tb, hn, ok, wd, dp, ht, q⟩ := h
  obtain rfl := hcd _ hcode
  refine ⟨_, (pss_cons (ps_set (i := 1) sc_law_refused.nd rfl (Or.inl rfl) (pe_callB (call_reprB hc T.sys (roomH230 hr (by omega))) (by rfl) T.z_repr (by decide +kernel) (pa_cons (pv 0) pa_nil)))
 (pss_cons (ps_if (pt_cmpR op_ne (pe_callB (call_reprB hc T.sys (roomH230 hr (by omega))) (by rfl) T.z_repr (by decide +kernel) (pa_cons (pe_dH hot D_is_tree hc (hr.mono (by omega)) (by rfl) (fun _ => passN) (pa_cons (pv 0) pa_nil)) pa_nil)) pe_str (nomark _))
  (pss_one (ps_ret pe_bl)) pss_nil)
 (pss_cons (ps_set (i := 2) sc_law_refused.nd rfl (Or.inl rfl) (pe_lst (pa_cons (pe_k (by rfl) (defKH D_expression_text)) (pa_cons (pe_k (by rfl) (defKH D_letters_of)) (pa_cons (pe_k (by rfl) (defKH D_names_of)) pa_nil)))))
 (pss_cons (ps_forH (passes_of rfl) hot (pi_listH (pe_op op_cat (pv 2) (pe_lst (pa_cons (pe_lam (q := qL) TB (by rfl) (by rfl)) (pa_cons (pe_lam (q := qL) TB (by rfl) (by rfl)) pa_nil))))) (pg_name (i := 3) sc_law_refused.nd rfl (Or.inl rfl))
  (pss_cons (ps_set (i := 4) sc_law_refused.nd rfl (Or.inl rfl) (pe_dH hot D__law_raised hc (hr.mono (by omega)) (by rfl) (fun _ => passN) (pa_cons (pv 3) (pa_cons (pv 0) pa_nil))))
 (pss_cons (ps_if (PW.pt (pw_or (pt_cmpR op_ne (pe_callB (call_reprB hc T.sys (roomH230 hr (by omega))) (by rfl) T.z_repr (by decide +kernel) (pa_cons (pv 4) pa_nil)) (pe_callB (call_reprB hc T.sys (roomH230 hr (by omega))) (by rfl) T.z_repr (by decide +kernel) (pa_cons (pe_lst (pa_cons pe_str (pa_cons (pv 0) pa_nil))) pa_nil)) (nomark _)) (pw_or1 (pt_cmpR op_ne (pe_callB (call_reprB hc T.sys (roomH230 hr (by omega))) (by rfl) T.z_repr (by decide +kernel) (pa_cons (pv 0) pa_nil)) (pv 1) (nomark _)))))
  (pss_one (ps_ret pe_bl)) pss_nil)
 (pss_cons (ps_if (pt_val (pe_callB call_isk (by rfl) T.z_isinstance (by decide +kernel) (pa_cons (pv 0) (pa_cons (pe_bltn (v := .ty "list") (by rfl) T.z_list (by decide +kernel) rfl) pa_nil))))
  (pss_cons (ps_expr (pe_bm PySem.F.plainAttrs_list PySem.F.slot_list_append PySem.F.type_list_append mt_append (pv 0) (pa_cons pe_str pa_nil)))
 (pss_cons (ps_if (pt_cmpR op_ne (pe_callB (call_reprB hc T.sys (roomH230 hr (by omega))) (by rfl) T.z_repr (by decide +kernel) (pa_cons (pv 4) pa_nil)) (pe_callB (call_reprB hc T.sys (roomH230 hr (by omega))) (by rfl) T.z_repr (by decide +kernel) (pa_cons (pe_lst (pa_cons pe_str (pa_cons (pv 0) pa_nil))) pa_nil)) (nomark _))
  (pss_one (ps_ret pe_bl)) pss_nil)
 (pss_one (ps_expr (pe_bm0 PySem.F.plainAttrs_list PySem.F.slot_list_pop PySem.F.type_list_pop mt_pop (pv 0)))))) pss_nil)
 (pss_one (ps_if (pt_val (pe_callB call_isk (by rfl) T.z_isinstance (by decide +kernel) (pa_cons (pv 0) (pa_cons (pe_bltn (v := .ty "dict") (by rfl) zd (by decide +kernel) rfl) pa_nil))))
  (pss_cons (ps_asg pe_int (pg_sub (pv 0) pe_str (set_dict (huH hr))))
 (pss_cons (ps_if (pt_cmpR op_ne (pe_callB (call_reprB hc T.sys (roomH230 hr (by omega))) (by rfl) T.z_repr (by decide +kernel) (pa_cons (pv 4) pa_nil)) (pe_callB (call_reprB hc T.sys (roomH230 hr (by omega))) (by rfl) T.z_repr (by decide +kernel) (pa_cons (pe_lst (pa_cons pe_str (pa_cons (pv 0) pa_nil))) pa_nil)) (nomark _))
  (pss_one (ps_ret pe_bl)) pss_nil)
 (pss_one (ps_expr (pe_dpop1 (pv 0) pe_str ⟨rfl, rfl, rfl, rfl⟩))))) pss_nil))))))
 (pss_one (ps_ret pe_bl)))))), ?_⟩
  have sz := sizeLine_eq
  have showF : (PyData.bool false).shown = "False" := by decide +kernel
  refine ⟨_, rfl, v, d, rfl, hd, ok, by omega, by omega, ?_⟩
  refine ⟨_, rfl, v, d, n, rfl, hd, tb, hn, fun H1 s1 => ⟨_, .bool false, rfl, .bl false, trivial, by show 5 ≤ sizeLine; omega, by decide +kernel, ?_⟩⟩
  rw [showF]
  have same : ∀ x : Str, (!decide (V.str x = V.str x)) = false := fun x => by simp
  refine ⟨rfl, _, rfl, iteB (fun c => absurd (c.symm.trans (same _)) (by decide)) (fun _ => ?_)⟩
  refine ⟨by show 3 ≤ sizeLine; omega, fun LA hLA => ?_⟩
  have t1 : TabS (upd H1 LA (.lst [.ref f2, .ref f3, .ref f4])) Pt qL := ht.ext (s1.trans (same_new hLA))
  refine ⟨_, rfl, ⟨t1, fun g1 c1 H2 e2 fr2 t2 nf1 hg1 hc1 => ⟨t2, fun g2 c2 H3 e3 fr3 t3 nf2 hg2 hc2 => ⟨by show 2 ≤ sizeLine; omega, fun LB hLB => ?_⟩⟩⟩⟩
  have hLA3 : H3 LA = some (.lst [.ref f2, .ref f3, .ref f4]) := e3 _ _ (e2 _ _ upd_same fun _ z => nomatch z) fun _ z => nomatch z
  refine ⟨LA, LB, _, _, rfl, rfl, same_new hLB _ _ hLA3, upd_same, by show 3 + 2 ≤ sizeLine; omega, fun L hL => ?_⟩
  have n5 := same_new hL (o := .lst ([V.ref f2, .ref f3, .ref f4] ++ [.ref g1, .ref g2]))
  have x35 : Same H3 (upd (upd H3 LB (.lst [.ref g1, .ref g2])) L (.lst ([V.ref f2, .ref f3, .ref f4] ++ [.ref g1, .ref g2]))) := (same_new hLB).trans n5
  have x5 : ExtN H (upd (upd H3 LB (.lst [.ref g1, .ref g2])) L (.lst ([V.ref f2, .ref f3, .ref f4] ++ [.ref g1, .ref g2]))) := fun b o h z => x35 _ _ (e3 _ _ (e2 _ _ (same_new hLA _ _ (s1 _ _ h)) z) z)
  have t5 := t3.ext x35
  have h5 := upd_same (H := upd H3 LB (.lst [.ref g1, .ref g2])) (a := L) (o := .lst ([V.ref f2, .ref f3, .ref f4] ++ [.ref g1, .ref g2]))
  have q1 : gL eL1 g1 c1 (upd (upd H3 LB (.lst [.ref g1, .ref g2])) L (.lst ([V.ref f2, .ref f3, .ref f4] ++ [.ref g1, .ref g2]))) := ⟨x35 _ _ (e3 _ _ hg1 fun _ z => nomatch z), x35 _ _ (e3 _ _ hc1 codeO_ne)⟩
  have q2 : gL eL2 g2 c2 (upd (upd H3 LB (.lst [.ref g1, .ref g2])) L (.lst ([V.ref f2, .ref f3, .ref f4] ++ [.ref g1, .ref g2]))) := ⟨x35 _ _ hg2, x35 _ _ hc2⟩
  generalize upd (upd H3 LB (.lst [.ref g1, .ref g2])) L (.lst ([V.ref f2, .ref f3, .ref f4] ++ [.ref g1, .ref g2])) = H5 at x5 t5 h5 q1 q2 ⊢
  have hd5 := Db.ext x5 hd
  have asks : ∀ (i : Nat) (x : V), ([V.ref f2, .ref f3, .ref f4] ++ [.ref g1, .ref g2])[i]? = some x → ∃ (fa : Addr) (G : Hp → Prop), x = .ref fa ∧ CalEH P w K mg base (L2.CX P w) 134 G fa (spNoBc K C_T) ∧ ∀ H', Same H5 H' → G H' := by
    intro i x hx
    match i, hx with
    | 0, hx => cases hx; exact ⟨_, _, rfl, CE2, fun _ _ => trivial⟩
    | 1, hx => cases hx; exact ⟨_, _, rfl, CE3, fun _ _ => trivial⟩
    | 2, hx => cases hx; exact ⟨_, _, rfl, CE4, fun _ _ => trivial⟩
    | 3, hx => cases hx; exact ⟨_, _, rfl, cal1H (f := g1) (c' := c1) D_with_names, fun _ s => ⟨s _ _ q1.1, s _ _ q1.2⟩⟩
    | 4, hx => cases hx; exact ⟨_, _, rfl, cal2H (f := g2) (c' := c2) D_with_names, fun _ s => ⟨s _ _ q2.1, s _ _ q2.2⟩⟩
    | k + 5, hx => exact nomatch hx
  refine ⟨L, rfl, ⟨_, SqL.of h5⟩, ?_⟩
  refine for_list (K := K) (a := L) (xs := [V.ref f2, .ref f3, .ref f4] ++ [.ref g1, .ref g2]) (fun i σ H' => ∃ o3 o4, σ = [some v, some (.str d.shown), some (.ref LA), o3, o4] ∧ Same H5 H') ⟨none, none, rfl, Same.refl H5⟩ (fun _ _ H' _ ⟨_, _, _, s⟩ => SqL.of (s _ _ h5)) ?_ (fun _ H' ⟨_, _, _, s⟩ => q _ (fun b o h z => s _ _ (x5 _ _ h z)) (t5.ext s))
  rintro i x σ H6 hx ⟨o3, o4, rfl, s6⟩
  obtain ⟨fa, G, rfl, CE, hG⟩ := asks i x hx
  refine ⟨_, rfl, _, rfl, fa, G, v, rfl, hG _ s6, ⟨CE, d, n, hd5.same s6, tb, hn, fun l H7 s7 l0 hl => ?_⟩⟩
  have s57 := s6.trans s7
  have hd7 := hd5.same s57
  have o2 := two_ok ok
  have w2 := two_wd d
  have p2 := two_dp d
  refine ⟨_, rfl, _, .list [.str "tree", d], rfl, .lst hl (.cons (.str _) (.cons hd7 .nil)), o2, by omega, by omega, ?_⟩
  refine ⟨_, rfl, by show 2 ≤ sizeLine; omega, fun M hM => ⟨_, .list [.str "tree", d], rfl, .lst upd_same (.cons (.str _) (.cons (hd7.same (same_new hM)) .nil)), o2, by omega, by omega, rfl, _, rfl, ?_⟩⟩
  have s78 := same_new hM (o := .lst [.str "tree", v])
  generalize upd H7 M (.lst [.str "tree", v]) = H8 at s78 ⊢
  have s58 := s57.trans s78
  have hd8 := hd5.same s58
  have hl8 := s78 _ _ hl
  refine iteB (fun c => absurd (c.symm.trans (same _)) (by decide)) (fun _ => ?_)
  refine ⟨_, rfl, v, d, rfl, hd8, ok, by omega, by omega, _, rfl, rfl, _, rfl, ?_⟩
  refine iteB (fun c => absurd (c.symm.trans (same _)) (by decide)) (fun _ => ?_)
  subst hds
  refine ⟨_, rfl, v, "list", rfl, by unfold Cn; simp, hd8.pv, _, rfl, ?_⟩
  rw [hd8.listd]
  refine iteF ⟨_, rfl, v, "dict", rfl, by unfold Cn; simp, hd8.pv, _, rfl, ?_⟩
  rw [hd8.dictd]
  exact iteF ⟨_, _, rfl, s58⟩
end
end KT

namespace KT
open PySem L2 Gd KM LamX L2H
theorem ix_listK {X : Cx} {K : PySem.W.Frag} (h : X.K = K) : IxR X (rIxL K) := by
  subst h
  exact ix_list
theorem roomD {k : Nat} {A : Around} (r : Room k A) : A.depth + 1 < recursionLimit := by
  have := r.dp
  omega
theorem roomS {k : Nat} {A : Around} {v : Option Value} (r : Room k A) : RoomH k (A.mark v) := ⟨r.dp, r.un⟩
theorem tkF {X : Cx} : L2N.Takes X (fun _ _ _ _ => False) := fun u s' ⟨_, _, _, _, _, _, _, _, _, _, _, _, _, _, _, _, w⟩ => w.elim
theorem hotS {X : Cx} {a : Addr} {oe : Obj} {cls : Value} {d : Option Addr} {pn : List (Addr × Obj)} (hz : L2N.Zn cls d oe) (hf : ∃ vs, oe.data = .fields vs) : HotC (X.suite a ((a, oe) :: pn)) :=
  let ⟨vs, e⟩ := hf
  ⟨(a, oe), ⟨rfl, vs, e, hz.2.2 vs e⟩, List.mem_cons_self⟩
section
variable {P : Program} {w : World} {K : PySem.W.Frag} {mg : Str → Option Value} {base : Heap} {aS aL C_T f_T : Addr} {es : Array DictEntry} {n : Nat}
theorem ok_requireN {f f1 : Addr} {fd fd1 : FuncData} (F : Fun K "require_tree" "require_tree" srequire_tree f fd) (TE : PySem.EzValue.LowTxt K mg "InvalidTree" "InvalidTree.__init__" C_T f_T)
    (D_is_tree : Df P w K mg base CX0 131 "is_tree" f1 fd1 ["value"] (spIsTreeB K)) : FnG P w K mg base (L2N.CX P w) 132 f fd ["value"] (spReqB K C_T) := by
  refine okG F screquire_tree (fun vs H Q E h => ?_) (fun cdv A outer s H vs Q E hc hr h => ?_)
  · obtain ⟨v, d, b, n, rfl, _⟩ := h
    rfl
  obtain ⟨v, d, b, n, rfl, hd, tb, hn, q1, q2⟩ := h
  refine ⟨_, (pss_one (ps_if (pt_not (pt_val (pe_d D_is_tree hc (hr.mono (by omega)) (by rfl) (fun _ => passN) (pa_cons (pv 0) pa_nil))))
  (pss_one (ps_raise_valueN rfl TE (roomD hr) (L2N.takes_of rfl rfl rfl rfl) (pa_cons (pv 0) pa_nil))) pss_nil)), ?_⟩
  refine ⟨_, rfl, v, d, b, n, rfl, hd, tb, hn, fun H1 s1 => ⟨_, rfl, ?_⟩⟩
  cases b with
  | true => exact iteF (q1 rfl _ s1)
  | false => exact iteT ⟨_, rfl, v, rfl, fun e he => q2 rfl e H1 s1 he⟩
theorem ok_withDN {f f1 f2 f3 f4 : Addr} {fd fd1 fd2 fd3 fd4 : FuncData} (F : Fun K "with_names" "with_names" swith_names f fd) (T : Txt w K mg base aS aL es n)
    (D_require_tree : Df P w K mg base (L2N.CX P w) 132 "require_tree" f1 fd1 ["value"] (spReqB K C_T)) (D_is_tree_table : Df P w K mg base CX0 132 "is_tree_table" f2 fd2 ["value"] spTab) (D_words_of : Df P w K mg base CX0 1 "words_of" f3 fd3 ["tree", "kind"] spWords) (D_replaced : Df P w K mg base CX0 42 "replaced" f4 fd4 ["tree", "table"] (spRep 42)) : FnG P w K mg base (L2N.CX P w) 133 f fd ["tree", "table"] (spDeepW C_T) := by
  refine okG F scwith_names (fun vs H Q E h => ?_) (fun cdv A outer s H vs Q E hc hr h => ?_)
  · obtain ⟨G, v, t, d, kvs, tb, rfl, _⟩ := h
    rfl
  obtain ⟨G, v, t, d, kvs, tb, rfl, sG, hGd, ht, hw, hh, hpd, hnd, hd, hn, tab, tab2, hnm, hrw, hrh, hrp, q⟩ := h
  refine ⟨_, (pss_cons (ps_expr (pe_d D_require_tree hc (hr.mono (by omega)) (by rfl) (fun σ => L2N.passAt (L2N.takes_of rfl rfl rfl rfl) σ) (pa_cons (pv 0) pa_nil)))
 (pss_cons (ps_if (pt_not (pt_val (pe_d D_is_tree_table hc (hr.mono (by omega)) (by rfl) (fun _ => passN) (pa_cons (pv 1) pa_nil))))
  (pss_one ps_never) pss_nil)
 (pss_cons (ps_for (passes_of rfl) rfl (pi_list (pe_d D_words_of hc (hr.mono (by omega)) (by rfl) (fun _ => passN) (pa_cons (pv 0) (pa_cons pe_str pa_nil)))) (pg_name (i := 2) scwith_names.nd rfl (Or.inl rfl))
  (pss_one (ps_if (pt_cmp (pc_dnotin (hu_of hr) (pv 2) (pv 1)))
  (pss_one ps_never) pss_nil)))
 (pss_cons (ps_set (i := 3) scwith_names.nd rfl (Or.inl rfl) (pe_d D_replaced hc (hr.mono (by omega)) (by rfl) (fun _ => passN) (pa_cons (pv 0) (pa_cons (pv 1) pa_nil))))
 (pss_cons (ps_expr (pe_d D_require_tree hc (hr.mono (by omega)) (by rfl) (fun σ => L2N.passAt (L2N.takes_of rfl rfl rfl rfl) σ) (pa_cons (pv 3) pa_nil)))
 (pss_one (ps_ret (pv 3)))))))), ?_⟩
  refine ⟨_, rfl, v, dT t, true, 3 * t.height, rfl, db_tree (ht.same sG), by have := tb_tree t hw 0 20 (by decide); rwa [decide_eq_true (show (pdA t 0 : Int) ≤ 20 by omega)] at this, by omega, fun _ H1 s1 => ?_, fun z => nomatch z⟩
  refine ⟨_, rfl, G, d, kvs, rfl, sG.trans s1, hGd, s1 _ _ hd, hn, tab, fun H2 s2 => ⟨_, rfl, ?_⟩⟩
  refine iteB (fun c => absurd c (by decide)) (fun _ => ?_)
  have s12 := s1.trans s2
  refine ⟨_, rfl, v, t, sName, rfl, ht.same (sG.trans s12), .inr rfl, hnd, fun H3 p s3 hp hp3 => ⟨p, rfl, ⟨_, SqL.of hp3⟩, ?_⟩⟩
  have s13 := s12.trans s3
  refine for_list (K := K) (a := p) (xs := (wo sName t).map V.str) (fun i σ H' => ∃ o2, σ = [some v, some (.ref d), o2, none] ∧ Same H3 H') ⟨none, rfl, Same.refl H3⟩ (fun _ _ H' _ ⟨_, _, s⟩ => SqL.of (s _ _ hp3)) ?_ ?_
  · rintro i y _ H4 hy ⟨o2, rfl, s4⟩
    rw [List.getElem?_map] at hy
    obtain ⟨x, hx, rfl⟩ := Option.map_eq_some_iff.mp hy
    obtain ⟨x8, xs⟩ := hnm x (List.mem_of_getElem? hx)
    obtain ⟨vv, hvv⟩ := Option.isSome_iff_exists.mp xs
    refine ⟨_, rfl, _, rfl, d, some vv, rfl, .inl ⟨kvs, Sum.inr x, .inl (s4 _ _ (s13 _ _ hd)), rfl, hvv.symm⟩, _, rfl, ?_⟩
    exact iteB (fun c => nomatch (show false = true from c)) (fun _ => ⟨some (.str x), rfl, s4⟩)
  · rintro _ H4 ⟨o2, rfl, s4⟩
    have s14 := s13.trans s4
    refine ⟨_, rfl, _, rfl, G, v, t, d, kvs, tb, 20, rfl, sG.trans s14, ht, hw, s14 _ _ hd, tab2, by omega, fun v' H5 s5 sl => ?_⟩
    obtain ⟨G2, a1, a2, a3, a4⟩ := sl
    exact ⟨_, rfl, v', dT (rep tb t), false, 3 * (rep tb t).height, rfl, db_tree (a3.same a2), by have := tb_tree (rep tb t) hrw 0 20 (by decide); rwa [decide_eq_false (show ¬ (pdA (rep tb t) 0 : Int) ≤ 20 by omega)] at this, by omega, (fun z => nomatch z), fun _ e H6 s6 he => q _ e _ (s14.trans (s5.trans s6)) ((a3.same a2).same s6) he⟩
end
end KT

namespace KT
open PySem L2 Gd KM LamX L2H
/-! ### the box is no part of a tree -/
def IsBox (H : Hp) (p : Addr) : Prop := ∃ a b c : Int, H p = some (.lst [.int a, .int b, .int c])
mutual
theorem tr_wof {H : Hp} {p : Addr} (hp : IsBox H p) : ∀ {v : V} {t : Tr}, TrAt H v t → TrAt (wof p H) v t
  | _, _, .none h => .none (wof_at h fun z => by obtain ⟨_, _, _, e⟩ := hp; rw [z, e] at h; exact nomatch h)
  | _, _, .empty h => .empty (wof_at h fun z => by obtain ⟨_, _, _, e⟩ := hp; rw [z, e] at h; exact nomatch h)
  | _, _, .letter h => .letter (wof_at h fun z => by obtain ⟨_, _, _, e⟩ := hp; rw [z, e] at h; exact nomatch h)
  | _, _, .name h => .name (wof_at h fun z => by obtain ⟨_, _, _, e⟩ := hp; rw [z, e] at h; exact nomatch h)
  | _, _, .sgn h t => .sgn (wof_at h fun z => by obtain ⟨_, _, _, e⟩ := hp; rw [z, e] at h; exact nomatch h) (tr_wof hp t)
  | _, _, .seq h g t => .seq (wof_at h fun z => by obtain ⟨_, _, _, e⟩ := hp; rw [z, e] at h; exact nomatch h) (wof_at g fun z => tr_nb hp t (by obtain ⟨_, _, _, e⟩ := hp; rw [z, e] at g; cases g; exact ⟨_, _, rfl⟩)) (trs_wof hp t)
  | _, _, .cho h g t => .cho (wof_at h fun z => by obtain ⟨_, _, _, e⟩ := hp; rw [z, e] at h; exact nomatch h) (wof_at g fun z => tr_nb hp t (by obtain ⟨_, _, _, e⟩ := hp; rw [z, e] at g; cases g; exact ⟨_, _, rfl⟩)) (trs_wof hp t)
theorem trs_wof {H : Hp} {p : Addr} (hp : IsBox H p) : ∀ {vs : List V} {ts : List Tr}, TrsAt H vs ts → TrsAt (wof p H) vs ts
  | _, _, .nil => .nil
  | _, _, .cons h r => .cons (tr_wof hp h) (trs_wof hp r)
theorem tr_nb {H : Hp} {p : Addr} (hp : IsBox H p) : ∀ {vs : List V} {ts : List Tr}, TrsAt H vs ts → (∃ (a : Int) (r : List V), vs = .int a :: r) → False
  | _, _, .nil, ⟨_, _, e⟩ => nomatch e
  | _, _, .cons h r, ⟨_, _, e⟩ => by cases e; exact nomatch h
end
theorem BoxC.is {H : Hp} {p : Addr} {m : Nat} (h : BoxC H p m) : IsBox H p := let ⟨a, b, c, e, _⟩ := h; ⟨a, b, c, e⟩
theorem tab_keep {H H' : Hp} {p P : Addr} {q : Str} (hp : IsBox H p) (k : ∀ b o, b ≠ p → H b = some o → H' b = some o) (t : TabS H P q) : TabS H' P q := by
  obtain ⟨ps, hP, ht, ha⟩ := t
  obtain ⟨_, _, _, e⟩ := hp
  refine ⟨ps, k _ _ (fun z => by rw [z, e] at hP; exact nomatch hP) hP, ht, fun p' cv hcv => ?_⟩
  obtain ⟨c, e1, e2⟩ := ha p' cv hcv
  exact ⟨c, e1, k _ _ (fun z => by rw [z, e] at e2; exact nomatch e2) e2⟩
theorem sq_keep {K : PySem.W.Frag} {H H' : Hp} {a : Addr} {xs : List V} (h : SqL K H a xs) (k : ∀ o, H a = some o → (∀ ps, o ≠ .tbl ps) → H' a = some o) : SqL K H' a xs := by
  rcases h with (h | ⟨od, h⟩) | h
  · exact .inl (.inl (k _ h fun _ z => nomatch z))
  · exact .inl (.inr ⟨od, k _ h fun _ z => nomatch z⟩)
  · exact .inr h
/-! ### a chain of stars -/
def star : Nat → Tr → Tr
  | 0, t => t
  | k + 1, t => .sgn 0 (star k t)
def chD : Nat → PyData → PyData
  | 0, d => d
  | k + 1, d => .tuple [.str sM, chD k d]
theorem dT_star (t : Tr) : ∀ k, dT (star k t) = chD k (dT t)
  | 0 => rfl
  | k + 1 => by
    show dT (.sgn 0 (star k t)) = _
    rw [dT, dT_star t k]
    rfl
theorem deepM (d : PyData) : ∀ r : Nat, TBc (2 * r + 1) (chD (r + 2) d) 0 r
  | 0 => .sgn (by decide +kernel) (.shut (by decide +kernel) (Int.le_refl _))
  | r + 1 => by
    have := deepM d r
    refine .sgn (n := 2 * r + 2) (by decide +kernel) (.par (n := 2 * r + 1) (by decide +kernel) (by omega) ?_)
    rw [show (((r + 1 : Nat) : Int) - 1) = r by omega]
    exact this
theorem deepE : ∀ r : Nat, TBc (2 * r + 1) (chD (r + 1) (.tuple [.str sEmpty])) 0 r
  | 0 => .sgn (by decide +kernel) (.emp (by decide +kernel) (Int.le_refl _))
  | r + 1 => by
    have := deepE r
    refine .sgn (n := 2 * r + 2) (by decide +kernel) (.par (n := 2 * r + 1) (by decide +kernel) (by omega) ?_)
    rw [show (((r + 1 : Nat) : Int) - 1) = r by omega]
    exact this
def uTab : Fin 2 → Tr
  | 0 => .sgn 0 (.letter 97)
  | 1 => .empty
def tbF (i : Fin 2) : Str → Option Tr := fun x => if x = "x" then some (uTab i) else none
theorem rep_star (tb : Str → Option Tr) (t : Tr) : ∀ k, rep tb (star k t) = star k (rep tb t)
  | 0 => rfl
  | k + 1 => by show Tr.sgn 0 (rep tb (star k t)) = _; rw [rep_star tb t k]; rfl
theorem rep_deep (i : Fin 2) : rep (tbF i) (star 21 (.name "x")) = star 21 (uTab i) := by
  rw [rep_star]
  rfl
theorem deep_tb (i : Fin 2) : TBc 41 (dT (star 21 (uTab i))) 0 20 := by
  rw [dT_star]
  match i with
  | 0 =>
    have : chD 21 (dT (uTab 0)) = chD 22 (dT (.letter 97)) := by
      show chD 21 (dT (.sgn 0 (.letter 97))) = _
      rw [dT]
      rfl
    rw [this]
    exact deepM _ 20
  | 1 =>
    have : dT (uTab 1) = .tuple [.str sEmpty] := by
      show dT .empty = _
      rw [dT]
    rw [this]
    exact deepE 20
theorem uTab_wf : ∀ i : Fin 2, (uTab i).Wf
  | 0 => (by decide +kernel : low 97 = true)
  | 1 => trivial
theorem uTab_h : ∀ i : Fin 2, (uTab i).height ≤ 20 ∧ pdA (uTab i) 0 ≤ 20 := by decide +kernel
theorem deep_h : ∀ i : Fin 2, (star 21 (uTab i)).height ≤ 40 ∧ 20 < pdA (star 21 (uTab i)) 0 ∧ nd (star 21 (uTab i)) ≤ 100 := by decide +kernel
theorem nmX : NmOk "x" := ⟨⟨by decide +kernel, by decide +kernel⟩, by decide +kernel, by decide +kernel⟩
theorem woX : wo sName (star 21 (.name "x")) = [("x" : Str)] := by decide +kernel
theorem text_ok {d : PyData} (ok : Ok1 d) : Ok1 (.list [.str "text", d]) := ⟨(by decide +kernel : ∀ z ∈ (("text" : Str)).cps.toList, z < 16 ^ 8), ok, trivial⟩
theorem text_wd (d : PyData) : wid (.list [.str "text", d]) = wid d + 48 := by
  have e : (("text" : Str)).length = 4 := by decide +kernel
  show (10 * (("text" : Str)).length + 2) + 2 + (wid d + 2 + 0) + 2 = _
  omega
theorem text_dp (d : PyData) : (PyData.list [.str "text", d]).depth ≤ d.depth + 1 := by
  show max 0 (max d.depth 0) + 1 ≤ _
  omega
end KT

namespace KT
open PySem L2 Gd KM LamX L2H
def spLaw (K : PySem.W.Frag) (Pt : Addr) : Sp := fun vs H Q _ => ∃ (a : Addr) (ns : List Int), vs = [.ref a] ∧ SqL K H a (ns.map V.int) ∧ ns.length ≤ 63 ∧ TabS H Pt qL ∧ ∀ H', Q (.bl true) H'
section
variable {P : Program} {w : World} {K : PySem.W.Frag} {mg : Str → Option Value} {base : Heap} {aS aL aK C_X f_X C_T f_T C_Y f_Y : Addr} {es eK : Array DictEntry} {n nK : Nat}
abbrev slaw : Stmt := top 54
theorem sclaw : FnScope ["_law_script", "_law_k", "_law_box_here", "_law_turn", "_law_tree_here", "_law_at", "_law_deep", "e", "_law_value"] ["_law_script"] (defScope slaw) := ⟨rfl, rfl, rfl, by decide +kernel, rfl, by decide +kernel, by decide +kernel⟩
theorem ok_law {f f1 f2 f3 f4 f5 f6 f7 f8 f9 f10 f11 : Addr} {fd fd1 fd2 fd3 fd4 fd5 fd6 fd7 fd8 fd9 fd10 fd11 : FuncData} {Pt : Addr} (F : Fun K "law" "law" slaw f fd) (T : Txt w K mg base aS aL es n) (TE : PySem.EzValue.LowTxt K mg "InvalidTree" "InvalidTree.__init__" C_T f_T) (zr : mg "range" = none) (zm : mg "max" = none) (zn : mg "min" = none)
    (CEp : CalE P w K mg base (L2.CX P w) 134 (fun _ => True) f9 (spNoT K C_Y))
    (D__law_cell : Df P w K mg base CX0 1 "_law_cell" f1 fd1 ["_law_script", "_law_k"] (spScr K)) (D__law_box : Df P w K mg base CX0 1 "_law_box" f2 fd2 ["_law_cell_here"] spBoxC) (D__law_take : Df P w K mg base CX0 1 "_law_take" f3 fd3 ["_law_box_here", "_law_many_here"] spTakeC)
    (D__law_tree : Df P w K mg base CX0 2 "_law_tree" f4 fd4 ["_law_box_here", "_law_letters", "_law_names"] spTree) (D__law_many : Df P w K mg base CX0 40 "_law_many" f5 fd5 ["_law_tree_here"] (spMany 21)) (D__law_put : Df P w K mg base CX0 40 "_law_put" f6 fd6 ["_law_tree_here", "_law_left", "_law_value"] (spPut K 21)) (D__law_no_tree : Df P w K mg base CX0 2 "_law_no_tree" f7 fd7 ["_law_box_here"] (spNo K))
    (D__law_refused : Df P w K mg base CX0 136 "_law_refused" f8 fd8 ["_law_value"] (spRefused K Pt)) (E__law_refused : DfH P w K mg base CX0 136 "_law_refused" f8 fd8 ["_law_value"] (spRefusedH K Pt)) (D_parse_expression : Df P w K mg base (L2.CX P w) 4 "parse_expression" f9 fd9 ["text"] spParseT) (D_with_names : Df P w K mg base (L2N.CX P w) 133 "with_names" f10 fd10 ["tree", "table"] (spDeepW C_T)) (D__law_raised : Df P w K mg base CX0 135 "_law_raised" f11 fd11 ["_law_ask", "_law_value"] (spRaised P w K mg base C_T C_Y)) :
    FnG P w K mg base CX0 137 f fd ["_law_script"] (spLaw K Pt) := by
  refine okG F sclaw (fun vs H Q E h => ?_) (fun cdv A outer s H vs Q E hc hr h => ?_)
  · obtain ⟨a, ns, rfl, _⟩ := h
    rfl
  obtain ⟨a, ns, rfl, ha, hns, ht, q⟩ := h
  refine ⟨_, (pss_cons (ps_for (passes_of rfl) rfl (pi_range1 rfl zr (pa_cons (pe_callB (call_max2 rfl) (by rfl) zm (by decide +kernel) (pa_cons pe_int (pa_cons (pe_callB (call_min2 rfl) (by rfl) zn (by decide +kernel) (pa_cons pe_int (pa_cons (pe_callB call_len_seq (by rfl) T.z_len (by decide +kernel) (pa_cons (pv 0) pa_nil)) pa_nil))) pa_nil))) pa_nil)) (pg_name (i := 1) sclaw.nd rfl (Or.inl rfl))
  (pss_cons (ps_set (i := 2) sclaw.nd rfl (Or.inl rfl) (pe_d D__law_box hc (hr.mono (by omega)) (by rfl) (fun _ => passN) (pa_cons (pe_d D__law_cell hc (hr.mono (by omega)) (by rfl) (fun _ => passN) (pa_cons (pv 0) (pa_cons (pv 1) pa_nil))) pa_nil)))
 (pss_cons (ps_for (passes_of rfl) rfl (pi_range1 rfl zr (pa_cons pe_int pa_nil)) (pg_name (i := 3) sclaw.nd rfl (Or.inl rfl))
  (pss_cons (ps_set (i := 4) sclaw.nd rfl (Or.inl rfl) (pe_d D__law_tree hc (hr.mono (by omega)) (by rfl) (fun _ => passN) (pa_cons (pv 2) (pa_cons (pe_lst (pa_cons pe_str (pa_cons pe_str pa_nil))) (pa_cons (pe_lst (pa_cons pe_str pa_nil)) pa_nil)))))
 (pss_cons (ps_set (i := 5) sclaw.nd rfl (Or.inl rfl) (pe_d D__law_take hc (hr.mono (by omega)) (by rfl) (fun _ => passN) (pa_cons (pv 2) (pa_cons (pe_d D__law_many hc (hr.mono (by omega)) (by rfl) (fun _ => passN) (pa_cons (pv 4) pa_nil)) pa_nil))))
 (pss_one (ps_if (pt_not (pt_val (pe_d D__law_refused hc (hr.mono (by omega)) (by rfl) (fun _ => passN) (pa_cons (pe_d D__law_put hc (hr.mono (by omega)) (by rfl) (fun _ => passN) (pa_cons (pv 4) (pa_cons (pe_lst (pa_cons (pv 5) pa_nil)) (pa_cons (pe_d D__law_no_tree hc (hr.mono (by omega)) (by rfl) (fun _ => passN) (pa_cons (pv 2) pa_nil)) pa_nil)))) pa_nil))))
  (pss_one (ps_ret pe_bl)) pss_nil)))))
 (pss_cons (ps_set (i := 6) sclaw.nd rfl (Or.inl rfl) (pe_d D_parse_expression hc (hr.mono (by omega)) (by rfl) (fun _ => passM) (pa_cons (pe_op op_add_str (pe_op op_add_str (pe_op op_repS pe_str pe_int) pe_str) (pe_op op_repS pe_str pe_int)) pa_nil)))
 (pss_cons (L2N.ps_try_as (i := 7) (Wout := fun _ _ _ _ => False) rfl rfl sclaw.nd rfl rfl ⟨rfl, by decide, .inl TE.gC⟩ tkF (fun W pn xe tk _ => (pss_cons (ps_expr (pe_d D_with_names hc (hr.mono (by omega)) (by rfl) (fun σ => L2N.passAt tk σ) (pa_cons (pv 6) (pa_cons (pe_disp (pps_cons pe_str (pe_ix (ix_listK (K := K) rfl) (pe_lst (pa_cons (pe_tup (pa_cons pe_str (pa_cons (pe_tup (pa_cons pe_str (pa_cons pe_str pa_nil))) pa_nil))) (pa_cons (pe_tup (pa_cons pe_str pa_nil)) pa_nil))) (pe_d D__law_take hc (hr.mono (by omega)) (by rfl) (fun _ => passN) (pa_cons (pv 2) (pa_cons pe_int pa_nil))) (fun _ _ => rfl)) pps_nil) (by rfl) (by rfl) (fun z => by cases z) (by decide)) pa_nil))))
 (pss_one (ps_ret pe_bl)))) (fun a oe cls d pn hz hf => (pss_one (ps_if (pt_not (pt_val (pe_dH (hotS hz hf) E__law_refused hc (roomS (hr.mono (by omega))) (by rfl) (fun _ => passN) (pa_cons (pe_by_value TE hz.zc hf (pv 7)) pa_nil))))
  (pss_one (ps_ret pe_bl)) pss_nil))))
 (pss_one (ps_for (passes_of rfl) rfl (pi_list (pe_lst (pa_cons pe_non (pa_cons pe_int (pa_cons pe_bl (pa_cons (pe_lst (pa_cons pe_str pa_nil)) (pa_cons (pe_tup (pa_cons pe_str (pa_cons pe_str pa_nil))) (pa_cons pe_dnewK pa_nil)))))))) (pg_name (i := 8) sclaw.nd rfl (Or.inl rfl))
  (pss_one (ps_if (pt_cmpR op_ne (pe_callB (call_reprB hc T.sys (room230 hr (by omega))) (by rfl) T.z_repr (by decide +kernel) (pa_cons (pe_d D__law_raised hc (hr.mono (by omega)) (by rfl) (fun _ => passN) (pa_cons (pe_k (by rfl) (defK D_parse_expression)) (pa_cons (pv 8) pa_nil))) pa_nil)) (pe_callB (call_reprB hc T.sys (room230 hr (by omega))) (by rfl) T.z_repr (by decide +kernel) (pa_cons (pe_lst (pa_cons pe_str (pa_cons (pv 8) pa_nil))) pa_nil)) (nomark _))
  (pss_one (ps_ret pe_bl)) pss_nil)))))))))
 (pss_one (ps_ret pe_bl))), ?_⟩
  have sz := sizeLine_eq
  refine ⟨_, rfl, a, _, rfl, .inl ha, _, _, rfl, _, _, rfl, _, rfl, ?_, ?_, ?_⟩
  · split <;> split <;> omega
  · split <;> split <;> omega
  refine for_range (fun i σ H' => ∃ o1 o2 o3 o4 o5 o6 o8, σ = [some (.ref a), o1, o2, o3, o4, o5, o6, none, o8] ∧ SqL K H' a (ns.map V.int) ∧ TabS H' Pt qL) ⟨none, none, none, none, none, none, none, rfl, ha, ht⟩ ?_ (fun _ _ _ => q _)
  rintro i _ H1 hi ⟨o1, o2, o3, o4, o5, o6, o8, rfl, h1, t1⟩
  have hi8 : i < 1000 := by
    refine Nat.lt_of_lt_of_le hi ?_
    split <;> split <;> omega
  refine ⟨_, rfl, _, rfl, a, ns, _, rfl, h1, ?_, ?_, fun z => ⟨z, rfl, fun p o hp hb => ?_⟩⟩
  · omega
  · omega
  have nu := same_new hp (o := o)
  have t2 := t1.ext nu
  generalize upd H1 p o = H2 at nu hb t2 ⊢
  -- the turns
  refine ⟨4, rfl, by decide, by decide, ?_⟩
  refine for_range (fun j σ H' => ∃ o3 o4 o5, σ = [some (.ref a), some (.int (0 + (i : Nat))), some (.ref p), o3, o4, o5, o6, none, o8] ∧ BoxC H' p (300 * j) ∧ TabS H' Pt qL ∧ (∀ b o, b ≠ p → (∀ ps, o ≠ .tbl ps) → H1 b = some o → H' b = some o)) ⟨_, _, _, rfl, hb, t2, fun b o _ _ h => nu _ _ h⟩ ?_ ?_
  · rintro j _ H3 hj ⟨o3, o4, o5, rfl, b3, t3, k3⟩
    refine ⟨_, rfl, by show 2 ≤ sizeLine; omega, fun la hla => ⟨by show 1 ≤ sizeLine; omega, fun na hna => ?_⟩⟩
    have m4 := (same_new hla (o := .lst [.str "a", .str "b"])).trans (same_new hna (o := .lst [.str "x"]))
    have hla4 := same_new hna (o := .lst [.str "x"]) _ _ (upd_same (H := H3) (a := la) (o := .lst [.str "a", .str "b"]))
    have hna4 := upd_same (H := upd H3 la (.lst [.str "a", .str "b"])) (a := na) (o := .lst [.str "x"])
    generalize upd (upd H3 la (.lst [.str "a", .str "b"])) na (.lst [.str "x"]) = H4 at m4 hla4 hna4 ⊢
    have b4 : BoxC H4 p (300 * j) := by
      obtain ⟨x, y, z, e, r⟩ := b3
      exact ⟨x, y, z, m4 _ _ e, r⟩
    refine ⟨p, la, na, _, rfl, b4, by omega, hla4, hna4, fun t v H5 gt hnd mv tr5 => ?_⟩
    obtain ⟨hw, hab, hh⟩ := gt
    have np := nd_pos t
    refine ⟨_, rfl, _, rfl, v, t, rfl, tr5, hh, by omega, fun H6 s6 => ?_⟩
    have b6 : BoxC H6 p (300 * j + 200) := by
      obtain ⟨x, y, z, e, r⟩ := mv.1
      exact ⟨x, y, z, s6 _ _ e, r⟩
    refine ⟨p, (nd t : Nat), _, rfl, b6, by omega, by omega, by omega, fun l H7 l0 l1 t7 => ?_⟩
    have tr7 : TrAt (wof p H7) v t := (tr_wof b6.is (tr5.same s6)).same fun b o h => by
      have n : b ≠ p := fun z => by rw [z, wof_self] at h; exact nomatch h
      refine wof_at ?_ n
      rw [t7.2 b n]
      exact wof_sub _ _ h
    refine ⟨_, rfl, _, rfl, by show 1 ≤ sizeLine; omega, fun lq hlq => ?_⟩
    have s8 := same_new hlq (o := .lst [.int l])
    have hq8 := upd_same (H := H7) (a := lq) (o := .lst [.int l])
    generalize upd H7 lq (.lst [.int l]) = H8 at s8 hq8 ⊢
    have nlp : lq ≠ p := fun z => by
      obtain ⟨x, y, w, e, r⟩ := t7.1
      rw [z, e] at hlq
      exact nomatch hlq
    have b8 : BoxC H8 p (300 * j + 201) := by
      obtain ⟨x, y, z, e, r⟩ := t7.1
      exact ⟨x, y, z, s8 _ _ e, r⟩
    have g0 : Same (wof p H7) (wof lq (wof p H8)) := fun b o h => by
      have n : b ≠ p := fun z => by rw [z, wof_self] at h; exact nomatch h
      have h := wof_sub _ _ h
      exact wof_at (wof_at (s8 _ _ h) n) (ne_of_none h hlq)
    have n0p : wof lq (wof p H8) p = none := by rw [wof, if_neg nlp.symm]; exact wof_self
    refine ⟨_, rfl, p, _, wof lq (wof p H8), rfl, b8, by omega, wof_sub.trans wof_sub, n0p, fun bad d G9 H9 hin hat sg9 nn9 s9 b9 k9 => ?_⟩
    have B := bad_of hin
    have hq9 := k9 _ _ nlp hq8
    have gq9 : G9 lq = none := nn9 lq wof_self (by rw [hq8]; exact fun z => nomatch z)
    refine ⟨G9, lq, v, bad, t, d, l, rfl, hq9, gq9, s9, tr7.same (g0.trans sg9), hat.1, hh, by omega, fun v' d' l' G10 H10 sg10 s10 _ hq10 k10 hd10 _ pr top => ?_⟩
    have put : PutR d t d' := by
      rcases pr with ⟨_, _, put, _⟩ | ⟨bad', _⟩
      · exact put
      · omega
    have ok := putR_ok B.ok B.wd B.dp put hw
    have K10 : ∀ b o, b ≠ p → H3 b = some o → H10 b = some o := fun b o n h => by
      have h5 := mv.2 b o n (m4 _ _ h)
      have h7 : H7 b = some o := by rw [t7.2 b n]; exact s6 _ _ h5
      exact k10 b o (ne_of_none h7 hlq) (k9 b o n (s8 _ _ h7))
    have t10 := tab_keep b3.is K10 t3
    refine ⟨v', d', _, rfl, hd10.same s10, ?_, putR_tb B.no put hw 0 20 (by decide), by omega, ok.1, by omega, by omega, t10, fun H11 x11 t11 => ?_⟩
    · rcases top with ⟨rfl, rfl⟩ | ⟨ds, rfl⟩
      · exact hat.2.same (sg10.trans s10)
      · exact .inl ⟨_, rfl⟩
    refine ⟨_, rfl, iteF ⟨_, _, _, rfl, ?_, t11, fun b o n z h => x11 _ _ (K10 b o n (k3 b o n z h)) z⟩⟩
    obtain ⟨x, y, z, e, r1, r2, r3, r4⟩ := b9
    exact ⟨x, y, z, x11 _ _ (k10 _ _ nlp.symm e) (fun _ z => nomatch z), r1, r2, r3, by omega⟩
  · rintro _ H3 ⟨o3, o4, o5, rfl, b3, t3, k3⟩
    have eT : repS "(" 20 ++ "<x>*" ++ repS ")*" 20 = wr0 (star 21 (.name "x")) := by decide +kernel
    have eL : (repS "(" 20 ++ "<x>*").length + (repS ")*" 20).length ≤ sizeLine := by rw [sizeLine_eq]; decide +kernel
    have eL2 : (repS "(" 20).length + ("<x>*" : Str).length ≤ sizeLine := by rw [sizeLine_eq]; decide +kernel
    have e1 : ("(" : Str).length ≠ 0 := by decide +kernel
    have e2 : (")*" : Str).length ≠ 0 := by decide +kernel
    have e3 : ("(" : Str).length * (20 : Int).toNat ≤ sizeLine := by rw [sizeLine_eq]; decide +kernel
    have e4 : (")*" : Str).length * (20 : Int).toNat ≤ sizeLine := by rw [sizeLine_eq]; decide +kernel
    refine ⟨_, _, rfl, rfl, by decide, by decide, e1, e3, _, _, rfl, rfl, eL2, _, _, rfl, rfl, by decide, by decide, e2, e4, _, _, rfl, rfl, eL, ?_⟩
    refine ⟨star 21 (.name "x"), by rw [eT]; rfl, nmX, by decide +kernel, by decide +kernel, fun v H4 s4 tr => ?_⟩
    have b4 : BoxC H4 p 1200 := by
      obtain ⟨x, y, z, e, r⟩ := b3
      exact ⟨x, y, z, s4 _ _ e, r⟩
    refine ⟨_, rfl, fun dA hdA => ?_⟩
    have sd := same_new hdA (o := .dK [])
    have hd5 := upd_same (H := H4) (a := dA) (o := .dK [])
    have nd4 : ∀ b o, H4 b = some o → b ≠ dA := fun b o h => ne_of_none h hdA
    generalize upd H4 dA (.dK []) = H5 at sd hd5 ⊢
    refine ⟨by show 2 ≤ sizeLine; omega, fun q1 hq1 => ⟨by show 2 ≤ sizeLine; omega, fun q2 hq2 => ⟨by show 1 ≤ sizeLine; omega, fun q3 hq3 => ⟨by show 2 ≤ sizeLine; omega, fun q4 hq4 => ?_⟩⟩⟩⟩
    have s6 := (((same_new hq1 (o := .tup [.str "letter", .str "a"])).trans (same_new hq2 (o := .tup [.str "many", .ref q1]))).trans (same_new hq3 (o := .tup [.str "empty"]))).trans (same_new hq4 (o := .lst [.ref q2, .ref q3]))
    have a1 := same_new hq4 (o := .lst [.ref q2, .ref q3]) _ _ (same_new hq3 (o := .tup [.str "empty"]) _ _ (same_new hq2 (o := .tup [.str "many", .ref q1]) _ _ (upd_same (H := H5) (a := q1) (o := .tup [.str "letter", .str "a"]))))
    have a2 := same_new hq4 (o := .lst [.ref q2, .ref q3]) _ _ (same_new hq3 (o := .tup [.str "empty"]) _ _ (upd_same (H := upd H5 q1 (.tup [.str "letter", .str "a"])) (a := q2) (o := .tup [.str "many", .ref q1])))
    have a3 := same_new hq4 (o := .lst [.ref q2, .ref q3]) _ _ (upd_same (H := upd (upd H5 q1 (.tup [.str "letter", .str "a"])) q2 (.tup [.str "many", .ref q1])) (a := q3) (o := .tup [.str "empty"]))
    have a4 := upd_same (H := upd (upd (upd H5 q1 (.tup [.str "letter", .str "a"])) q2 (.tup [.str "many", .ref q1])) q3 (.tup [.str "empty"])) (a := q4) (o := .lst [.ref q2, .ref q3])
    generalize upd (upd (upd (upd H5 q1 (.tup [.str "letter", .str "a"])) q2 (.tup [.str "many", .ref q1])) q3 (.tup [.str "empty"])) q4 (.lst [.ref q2, .ref q3]) = H6 at s6 a1 a2 a3 a4 ⊢
    have s46 := sd.trans s6
    have b6 : BoxC H6 p 1200 := by
      obtain ⟨x, y, z, e, r⟩ := b4
      exact ⟨x, y, z, s46 _ _ e, r⟩
    obtain ⟨px, py, pz, hp6, _⟩ := id b6
    refine ⟨_, rfl, p, 2, 1200, rfl, b6, by decide, by decide, by decide, fun ix H7 x0 x1 t7 => ?_⟩
    have nt : ∀ {q : Addr} {xs : List V}, H6 q = some (.tup xs) → q ≠ p := fun h z => by rw [z, hp6] at h; exact nomatch h
    have ntd : ∀ {q : Addr} {xs : List V}, H6 q = some (.tup xs) → q ≠ dA := fun h z => by rw [z, s6 _ _ hd5] at h; exact nomatch h
    have n4p : q4 ≠ p := fun z => by
      rw [z, hp6] at a4
      exact nomatch a4
    obtain ⟨fi, uv, hx, htr⟩ : ∃ (fi : Fin 2) (uv : V), [V.ref q2, .ref q3][ix.toNat]? = some uv ∧ TrAt (wof dA (wof p H6)) uv (uTab fi) := by
      have c : ix = 0 ∨ ix = 1 := by omega
      rcases c with rfl | rfl
      · exact ⟨0, _, rfl, .sgn (k := 0) (wof_at (wof_at a2 (nt a2)) (ntd a2)) (.letter (wof_at (wof_at a1 (nt a1)) (ntd a1)))⟩
      · exact ⟨1, _, rfl, .empty (wof_at (wof_at a3 (nt a3)) (ntd a3))⟩
    have ixe : ix = (ix.toNat : Int) := (Int.toNat_of_nonneg x0).symm
    refine ⟨q4, [.ref q2, .ref q3], ix, _, rfl, rfl, SqL.of (by rw [t7.2 q4 n4p]; exact a4), by rw [ixe]; exact atI_nat (j := ix.toNat) hx, ?_⟩
    have ndp : dA ≠ p := fun z => by
      have h := s6 _ _ hd5
      rw [z, hp6] at h
      exact nomatch h
    have hd7 : H7 dA = some (.dK []) := by rw [t7.2 dA ndp]; exact s6 _ _ hd5
    refine ⟨hd7, [(.inr "x", uv)], rfl, by show 1 ≤ 15; decide, ?_⟩
    have hd8 : upd H7 dA (.dK (mergeK [] [((.inr "x" : Key), uv)])) dA = some (.dK [(.inr "x", uv)]) := upd_same
    have k8 : ∀ b o, b ≠ p → b ≠ dA → H6 b = some o → upd H7 dA (.dK (mergeK [] [((.inr "x" : Key), uv)])) b = some o := fun b o n n2 h => by
      rw [upd_ne n2, t7.2 b n]
      exact h
    generalize upd H7 dA (.dK (mergeK [] [((.inr "x" : Key), uv)])) = H8 at hd8 k8 ⊢
    have sG : ∀ b o, b ≠ p → b ≠ dA → H6 b = some o → wof dA (wof p H8) b = some o := fun b o n n2 h => wof_at (wof_at (k8 b o n n2 h) n) n2
    have g68 : Same (wof dA (wof p H6)) (wof dA (wof p H8)) := fun b o h => by
      have n2 : b ≠ dA := fun z => by rw [z, wof_self] at h; exact nomatch h
      have h := wof_sub _ _ h
      have n : b ≠ p := fun z => by rw [z, wof_self] at h; exact nomatch h
      exact sG b o n n2 (wof_sub _ _ h)
    have tr8 : TrAt (wof dA (wof p H8)) v (star 21 (.name "x")) := (tr_wof b4.is tr).same fun b o h => by
      have n : b ≠ p := fun z => by rw [z, wof_self] at h; exact nomatch h
      have h := wof_sub _ _ h
      exact sG b o n (nd4 b o h) (s46 _ _ h)
    have hu8 := htr.same g68
    have vx : valV [((.inr "x" : Key), uv)] (.inr "x") = some uv := valV_pos rfl
    have uh := uTab_h fi
    have dh := deep_h fi
    refine ⟨wof dA (wof p H8), v, star 21 (.name "x"), dA, [(.inr "x", uv)], tbF fi, rfl, wof_sub.trans wof_sub, wof_self, tr8, nmX, by decide +kernel, by decide +kernel, by decide +kernel, hd8, by show 1 ≤ 1000; decide, fun k y hk => ?_, fun x => ?_, fun x hx => ?_, by rw [rep_deep]; exact uTab_wf fi, by rw [rep_deep]; exact dh.1, by rw [rep_deep]; exact dh.2.1, fun v' e H9 s9 tr9 he => ?_⟩
    · have hk := List.mem_singleton.mp hk
      cases hk
      exact ⟨"x", uTab fi, rfl, nmX, vx, hu8, uTab_wf fi, by omega, uh.2⟩
    · by_cases c : x = "x"
      · subst c
        exact .inr ⟨uv, uTab fi, vx, if_pos rfl, hu8, uTab_wf fi, uh.1⟩
      · exact .inl ⟨(valV_neg (fun z => c (by injection z with z; exact z.symm))).trans valV_nil, if_neg c⟩
    · rw [woX] at hx
      have hx := List.mem_singleton.mp hx
      subst hx
      exact ⟨nmX.1, by rw [vx]; rfl⟩
    rw [rep_deep] at tr9
    refine ⟨true, TE.te, fun _ a' ha' => ?_, fun z => nomatch z⟩
    have K9 : ∀ b o, b ≠ p → H3 b = some o → upd H9 e (.xd [("value", v')]) b = some o := fun b o n h => by
      have h4 := s4 _ _ h
      exact same_new he _ _ (s9 _ _ (k8 b o n (nd4 b o h4) (s46 _ _ h4)))
    have t9 := tab_keep b3.is K9 t3
    have tr10 := tr9.same (same_new he (o := .xd [("value", v')]))
    have hv10 := upd_same (H := H9) (a := e) (o := .xd [("value", v')])
    generalize upd H9 e (.xd [("value", v')]) = H10 at K9 t9 tr10 hv10 ⊢
    obtain ⟨kd1, kd2⟩ := dT_ok1 _ (show (star 21 (uTab fi)).Wf from uTab_wf fi)
    obtain ⟨_, kd3⟩ := dT_ok _ (show (star 21 (uTab fi)).Wf from uTab_wf fi)
    refine ⟨_, rfl, rfl, rfl, e, v', rfl, hv10, v', dT (star 21 (uTab fi)), 41, rfl, db_tree tr10, let ⟨ds, h⟩ := dT_tup (star 21 (uTab fi)); ⟨_, h⟩, deep_tb fi, by decide, kd1, by omega, by omega, t9, fun H11 x11 t11 => ⟨_, rfl, iteF ?_⟩⟩
    have K11 : ∀ b o, b ≠ p → (∀ ps, o ≠ .tbl ps) → H1 b = some o → H11 b = some o := fun b o n z h => x11 _ _ (K9 b o n (k3 b o n z h)) z
    have sq11 : SqL K H11 a (ns.map V.int) := sq_keep h1 fun o h z => K11 a o (ne_of_none h hp) z h
    refine ⟨by show 1 ≤ sizeLine; omega, fun r1 hr1 => ⟨by show 2 ≤ sizeLine; omega, fun r2 hr2 r3 hr3 => ⟨by show 6 ≤ sizeLine; omega, fun r4 hr4 => ?_⟩⟩⟩
    have w1 := same_new hr1 (o := .lst [.str "a"])
    have w2 := same_new hr2 (o := .tup [.str "letter", .str "a"])
    have w3 := same_new hr3 (o := .dK [])
    have w4 := same_new hr4 (o := .lst [.non, .int 7, .bl true, .ref r1, .ref r2, .ref r3])
    have c1 := w4 _ _ (w3 _ _ (w2 _ _ (upd_same (H := H11) (a := r1) (o := .lst [.str "a"]))))
    have c2 := w4 _ _ (w3 _ _ (upd_same (H := upd H11 r1 (.lst [.str "a"])) (a := r2) (o := .tup [.str "letter", .str "a"])))
    have c3 := w4 _ _ (upd_same (H := upd (upd H11 r1 (.lst [.str "a"])) r2 (.tup [.str "letter", .str "a"])) (a := r3) (o := .dK []))
    have c4 := upd_same (H := upd (upd (upd H11 r1 (.lst [.str "a"])) r2 (.tup [.str "letter", .str "a"])) r3 (.dK [])) (a := r4) (o := .lst [.non, .int 7, .bl true, .ref r1, .ref r2, .ref r3])
    have w14 := ((w1.trans w2).trans w3).trans w4
    generalize upd (upd (upd (upd H11 r1 (.lst [.str "a"])) r2 (.tup [.str "letter", .str "a"])) r3 (.dK [])) r4 (.lst [.non, .int 7, .bl true, .ref r1, .ref r2, .ref r3]) = H12 at c1 c2 c3 c4 w14 ⊢
    have its : ∀ (k : Nat) (x : V), [V.non, .int 7, .bl true, .ref r1, .ref r2, .ref r3][k]? = some x → ∃ d, Db K H12 x d ∧ (∀ y, d ≠ .str y) ∧ Ok1 d ∧ wid d ≤ 1000 ∧ d.depth ≤ 10 := by
      intro k x hx
      have lw : ∀ z : Str, z = "a" ∨ z = "letter" → ∀ c ∈ z.cps.toList, c < 16 ^ 8 := by
        rintro z (rfl | rfl)
        · exact (by decide +kernel : ∀ c ∈ (("a" : Str)).cps.toList, c < 16 ^ 8)
        · exact (by decide +kernel : ∀ c ∈ (("letter" : Str)).cps.toList, c < 16 ^ 8)
      match k, hx with
      | 0, hx => cases hx; exact ⟨.none, .non, (fun y z => nomatch z), trivial, by decide +kernel, by decide +kernel⟩
      | 1, hx => cases hx; exact ⟨.int 7, .int 7, (fun y z => nomatch z), (by decide +kernel : (7 : Int).natAbs.log2 < 1920), by decide +kernel, by decide +kernel⟩
      | 2, hx => cases hx; exact ⟨.bool true, .bl true, (fun y z => nomatch z), trivial, by decide +kernel, by decide +kernel⟩
      | 3, hx => cases hx; exact ⟨.list [.str "a"], .lst c1 (.cons (.str _) .nil), (fun y z => nomatch z), ⟨lw _ (.inl rfl), trivial⟩, by decide +kernel, by decide +kernel⟩
      | 4, hx => cases hx; exact ⟨.tuple [.str "letter", .str "a"], .tup c2 (.cons (.str _) (.cons (.str _) .nil)), (fun y z => nomatch z), ⟨lw _ (.inr rfl), lw _ (.inl rfl), trivial⟩, by decide +kernel, by decide +kernel⟩
      | 5, hx => cases hx; exact ⟨.dict [], .dct (kvs := []) (ds := []) c3 .nil, (fun y z => nomatch z), trivial, by decide +kernel, by decide +kernel⟩
      | k + 6, hx => exact nomatch hx
    have same : ∀ x : Str, (!decide (V.str x = V.str x)) = false := fun x => by simp
    refine ⟨r4, rfl, ⟨_, SqL.of c4⟩, ?_⟩
    refine for_list (K := K) (a := r4) (xs := [V.non, .int 7, .bl true, .ref r1, .ref r2, .ref r3]) (fun k σ H' => ∃ o9, σ = [some (.ref a), some (.int (0 + (i : Nat))), some (.ref p), o3, o4, o5, some v, none, o9] ∧ Same H12 H') ⟨_, rfl, Same.refl _⟩ (fun _ _ H' _ ⟨_, _, s⟩ => SqL.of (s _ _ c4)) ?_ (fun _ H' ⟨_, e, s⟩ => ⟨_, _, _, _, _, _, _, e, sq_keep sq11 fun o h z => s _ _ (w14 _ _ h), t11.ext (w14.trans s)⟩)
    rintro k x _ H13 hx ⟨o9, rfl, s13⟩
    obtain ⟨dx, db, no, ok, wd, dp⟩ := its k x hx
    have o2 := text_ok ok
    have e5 := text_wd dx
    have e6 := text_dp dx
    refine ⟨_, rfl, f9, fun _ => True, x, rfl, trivial, .inr ⟨CEp, dx, db.same s13, no, fun l H14 s14 l0 hl => ?_⟩⟩
    have db14 := (db.same s13).same s14
    refine ⟨_, .list [.str "text", dx], rfl, .lst hl (.cons (.str _) (.cons db14 .nil)), o2, by omega, by omega, ?_⟩
    refine ⟨_, rfl, by show 2 ≤ sizeLine; omega, fun M hM => ⟨_, .list [.str "text", dx], rfl, .lst upd_same (.cons (.str _) (.cons (db14.same (same_new hM)) .nil)), o2, by omega, by omega, rfl, _, rfl, ?_⟩⟩
    exact iteB (fun c => absurd (c.symm.trans (same _)) (by decide)) (fun _ => ⟨_, rfl, (s13.trans s14).trans (same_new hM)⟩)
end
end KT

set_option maxHeartbeats 4000000
namespace KT
open PySem PySem.Spec PyProof.Rows L2 Gd KM LamX
abbrev swritten_at : Stmt := top 37
theorem sgn_in {K : PySem.W.Frag} {a : Addr} {u1 u2 u3 : Value} (h1 : PySem.W.nsIn K a "many" = some (some u1)) (h2 : PySem.W.nsIn K a "some" = some (some u2)) (h3 : PySem.W.nsIn K a "maybe" = some (some u3))
    (n1 : PySem.W.nsIn K a "none" = some none) (n2 : PySem.W.nsIn K a "empty" = some none) (n3 : PySem.W.nsIn K a "letter" = some none) (n4 : PySem.W.nsIn K a "name" = some none) (n5 : PySem.W.nsIn K a "sequence" = some none) (n6 : PySem.W.nsIn K a "choice" = some none) :
    ∀ t : Tr, ∃ r, PySem.W.nsIn K a t.kind = some r ∧ r.isSome = isSgn t := by
  intro t
  cases t with
  | none => exact ⟨_, n1, rfl⟩
  | empty => exact ⟨_, n2, rfl⟩
  | letter c => exact ⟨_, n3, rfl⟩
  | name x => exact ⟨_, n4, rfl⟩
  | sgn k t =>
    have : k = 0 ∨ k = 1 ∨ k = 2 := by revert k; decide
    rcases this with rfl | rfl | rfl
    · exact ⟨_, h1, rfl⟩
    · exact ⟨_, h2, rfl⟩
    · exact ⟨_, h3, rfl⟩
  | seq l => exact ⟨_, n5, rfl⟩
  | cho l => exact ⟨_, n6, rfl⟩
theorem tx_in {K : PySem.W.Frag} {a : Addr} {x y : _root_.Fin 3 → Str} {t1 t2 t3 : Tok} (h1 : PySem.W.nsIn K a (x 0) = some (some (.str (y 0) t1))) (h2 : PySem.W.nsIn K a (x 1) = some (some (.str (y 1) t2))) (h3 : PySem.W.nsIn K a (x 2) = some (some (.str (y 2) t3))) :
    ∀ k : _root_.Fin 3, ∃ u0, PySem.W.nsIn K a (x k) = some (some u0) ∧ RelV (.str (y k)) u0 := by
  intro k
  have : k = 0 ∨ k = 1 ∨ k = 2 := by revert k; decide
  rcases this with rfl | rfl | rfl
  · exact ⟨_, h1, _, rfl⟩
  · exact ⟨_, h2, _, rfl⟩
  · exact ⟨_, h3, _, rfl⟩
theorem sig_in {K : PySem.W.Frag} {a : Addr} {e1 e2 e3 : DictEntry} {n : Nat} {t1 t2 t3 : Tok} (hl : K.lookup a = some ⟨.type "dict", none, .dict #[e1, e2, e3] n, #[]⟩) (h1 : e1.key = .str "*" t1) (h2 : e2.key = .str "+" t2) (h3 : e3.key = .str "?" t3) :
    ∀ c : Nat, ∃ r, PySem.W.nsIn K a ⟨#[c]⟩ = some r ∧ r.isSome = isSig c := by
  intro c
  have key : ∀ (e : DictEntry) (x : Str) (d : Nat) (t : Tok), e.key = .str x t → x = ⟨#[d]⟩ → e.key.isStr ⟨#[c]⟩ = decide (c = d) := by
    intro e x d t h1 h2
    rw [h1, h2]
    show ((⟨#[d]⟩ : Str) == ⟨#[c]⟩) = decide (c = d)
    by_cases z : c = d
    · rw [z, decide_eq_true rfl]
      exact beq_self_eq_true _
    · rw [decide_eq_false z]
      refine beq_eq_false_iff_ne.mpr fun q => z ?_
      injection q with q
      injection q with q
      injection q with q
      exact q.symm
  have q1 := key e1 _ 42 _ h1 (by decide +kernel)
  have q2 := key e2 _ 43 _ h2 (by decide +kernel)
  have q3 := key e3 _ 63 _ h3 (by decide +kernel)
  have r1 : e1.refKey = false := by unfold DictEntry.refKey; rw [h1]
  have r2 : e2.refKey = false := by unfold DictEntry.refKey; rw [h2]
  have r3 : e3.refKey = false := by unfold DictEntry.refKey; rw [h3]
  unfold PySem.W.nsIn isSig
  rw [hl]
  show ∃ r, (match List.find? (fun z => z.key.isStr ⟨#[c]⟩) [e1, e2, e3] with
      | some e => some (some e.val)
      | none => if List.any [e1, e2, e3] (fun z => z.refKey) then none else some none) = some r ∧ _
  by_cases c1 : c = 42
  · rw [List.find?_cons_of_pos (by rw [q1, c1]; rfl)]
    exact ⟨_, rfl, by rw [c1]; rfl⟩
  rw [List.find?_cons_of_neg (by rw [q1, decide_eq_false c1]; exact Bool.false_ne_true)]
  by_cases c2 : c = 43
  · rw [List.find?_cons_of_pos (by rw [q2, c2]; rfl)]
    exact ⟨_, rfl, by rw [c2]; rfl⟩
  rw [List.find?_cons_of_neg (by rw [q2, decide_eq_false c2]; exact Bool.false_ne_true)]
  by_cases c3 : c = 63
  · rw [List.find?_cons_of_pos (by rw [q3, c3]; rfl)]
    exact ⟨_, rfl, by rw [c3]; rfl⟩
  rw [List.find?_cons_of_neg (by rw [q3, decide_eq_false c3]; exact Bool.false_ne_true), decide_eq_false c1, decide_eq_false c2, decide_eq_false c3]
  refine ⟨none, ?_, rfl⟩
  show (if (e1.refKey || (e2.refKey || (e3.refKey || false))) = true then none else some none) = some none
  rw [r1, r2, r3]
  rfl
theorem kit_sub {K : PySem.W.Frag} {C : Addr} {n : String} (h : (Value.ref C == Value.type n) = false) (hm : PySem.W.kitMeta n = true) (e : PySem.W.subIn K (.ref C) (.type n) = some false) : PySem.W.kitOne K (.ref C) (.type n) = some false := by
  unfold PySem.W.kitOne
  rw [h, if_neg Bool.false_ne_true]
  show (if PySem.W.kitMeta n = true then PySem.W.subIn K (.ref C) (.type n) else none) = some false
  rw [if_pos hm]
  exact e
theorem exm_noG {K : PySem.W.Frag} {C S : Addr} (h1 : PySem.W.subIn K (.ref S) (.type "BaseException") = some true) (h2 : PySem.W.isClsIn K S = true) (h3 : PySem.W.typeIn K (.ref S) = some (.type "type")) (h4 : PySem.W.subIn K (.ref C) (.ref S) = some false) :
    PySem.W.exmOne K (.ref C) (.ref S) = some false := by
  have e1 : (PySem.W.subIn K (.ref S) (.type "BaseException") == some true) = true := by rw [h1] <;> rfl
  have e2 : ((PySem.W.clsIn K S).isSome && PySem.W.typeIn K (.ref S) == some (.type "type")) = true := by
    have h2' : (PySem.W.clsIn K S).isSome = true := h2
    rw [h2', h3] <;> rfl
  show (if (PySem.W.subIn K (.ref S) (.type "BaseException") == some true) = true then (if ((PySem.W.clsIn K S).isSome && PySem.W.typeIn K (.ref S) == some (.type "type")) = true then PySem.W.subIn K (.ref C) (.ref S) else none) else none) = some false
  rw [if_pos e1, if_pos e2]
  exact h4
section
variable {P : Program} {w : World} {K : PySem.W.Frag} {mg : Str → Option Value} {base : Heap} {CX : CXT} {k : Nat} {f : Addr} {fd : FuncData} {ps : List Str} {sp sp1 sp2 : Sp}
theorem _root_.Gd.FnG.imp (F : FnG P w K mg base CX k f fd ps sp) (h : ∀ vs H Q E, sp1 vs H Q E → sp vs H Q E) : FnG P w K mg base CX k f fd ps sp1 :=
  ⟨fun vs H Q E z => F.len vs H Q E (h _ _ _ _ z), fun A outer s H args us vs Q E hc hr e0 hb r z => F.run A outer s H args us vs Q E hc hr e0 hb r (h _ _ _ _ z)⟩
end
def spTop (K : PySem.W.Frag) (cs : List (Addr × Addr)) : Sp := fun vs H Q _ => ∃ (a : Addr) (ns : List Int), vs = [.ref a] ∧ SqL K H a (ns.map V.int) ∧ ns.length ≤ 63 ∧ (∀ p ∈ cs, H p.2 = some (.tbl #[])) ∧ ∀ H', Q (.bl true) H'
theorem odd_in {K : PySem.W.Frag} {a : Addr} (h1 : PySem.W.nsIn K a "more" = some none) (h2 : PySem.W.nsIn K a "None" = some none) (h3 : PySem.W.nsIn K a "Letter" = some none) : ∀ x ∈ odd3, PySem.W.nsIn K a x = some none := by
  intro x hx
  simp only [odd3, List.mem_cons, List.not_mem_nil, or_false] at hx
  rcases hx with rfl | rfl | rfl
  · exact h1
  · exact h2
  · exact h3
theorem exm_two {K : PySem.W.Frag} {c a b : Value} {x y : Bool} (h1 : PySem.W.exmOne K c a = some x) (h2 : PySem.W.exmOne K c b = some y) (e : (x || (y || false)) = true) : PySem.W.exmAny K c [a, b] = some true := by
  simp only [PySem.W.exmAny, h1, h2]
  rw [e]
theorem kit_selfR {K : PySem.W.Frag} {C : Addr} : PySem.W.kitOne K (.ref C) (.ref C) = some true := by
  unfold PySem.W.kitOne
  rw [if_pos (by simp)]
theorem kit_ref {K : PySem.W.Frag} {C D : Addr} (n : ((Value.ref C) == (Value.ref D)) = false) (h2 : PySem.W.isClsIn K D = true) (h3 : PySem.W.typeIn K (.ref D) = some (.type "type")) (h4 : PySem.W.subIn K (.ref C) (.ref D) = some false) : PySem.W.kitOne K (.ref C) (.ref D) = some false := by
  unfold PySem.W.kitOne
  rw [n, if_neg Bool.false_ne_true]
  have e2 : ((PySem.W.clsIn K D).isSome && PySem.W.typeIn K (.ref D) == some (.type "type")) = true := by
    have h2' : (PySem.W.clsIn K D).isSome = true := h2
    rw [h2', h3] <;> rfl
  show (if ((PySem.W.clsIn K D).isSome && PySem.W.typeIn K (.ref D) == some (.type "type")) = true then PySem.W.subIn K (.ref C) (.ref D) else none) = some false
  rw [if_pos e2]
  exact h4
section
variable {P : Program} {w : World} {K : PySem.W.Frag} {mg : Str → Option Value} {base : Heap} {aS aL : Addr} {es : Array DictEntry} {n : Nat}
theorem all_rep {f : Addr} {fd : FuncData} (F : Fun K "replaced" "replaced" sreplaced f fd) (T : Txt w K mg base aS aL es n) (m0 : mg "replaced" = some (.ref f)) (k0 : PySem.W.keepIn K (.ref f) = true) (b0 : Binds K fd ["tree", "table"] []) : ∀ m, FnG P w K mg base CX0 m f fd ["tree", "table"] (spRep m)
  | 0 => no_fn fun vs H Q E ⟨_, _, t, _, _, _, _, _, _, _, _, _, _, h, _⟩ => by have := height_pos t; omega
  | m + 1 => ok_replaced F T ⟨all_rep F T m0 k0 b0 m, m0, k0, b0⟩
theorem all_put {f : Addr} {fd : FuncData} (F : Fun K "_law_put" "_law_put" s_law_put f fd) (T : Txt w K mg base aS aL es n) (m0 : mg "_law_put" = some (.ref f)) (k0 : PySem.W.keepIn K (.ref f) = true) (b0 : Binds K fd ["_law_tree_here", "_law_left", "_law_value"] []) : ∀ m, FnG P w K mg base CX0 m f fd ["_law_tree_here", "_law_left", "_law_value"] (spPut K m)
  | 0 => no_fn fun vs H Q E ⟨_, _, _, _, t, _, _, _, _, _, _, _, _, h, _⟩ => by have := height_pos t; omega
  | m + 1 => ok_put F T ⟨all_put F T m0 k0 b0 m, m0, k0, b0⟩
theorem all_many {f : Addr} {fd : FuncData} (F : Fun K "_law_many" "_law_many" s_law_many f fd) (T : Txt w K mg base aS aL es n) (z : mg "sum" = none) (m0 : mg "_law_many" = some (.ref f)) (k0 : PySem.W.keepIn K (.ref f) = true) (b0 : Binds K fd ["_law_tree_here"] []) : ∀ m, FnG P w K mg base CX0 m f fd ["_law_tree_here"] (spMany m)
  | 0 => no_fn fun vs H Q E ⟨_, t, _, _, h, _⟩ => by have := height_pos t; omega
  | m + 1 => ok_many F T z ⟨all_many F T z m0 k0 b0 m, m0, k0, b0⟩
end
theorem exm_selfG {K : PySem.W.Frag} {S : Addr} (h1 : PySem.W.subIn K (.ref S) (.type "BaseException") = some true) (h2 : PySem.W.isClsIn K S = true) (h3 : PySem.W.typeIn K (.ref S) = some (.type "type")) (h4 : PySem.W.subIn K (.ref S) (.ref S) = some true) :
    PySem.W.exmOne K (.ref S) (.ref S) = some true := by
  have e1 : (PySem.W.subIn K (.ref S) (.type "BaseException") == some true) = true := by rw [h1] <;> rfl
  have e2 : ((PySem.W.clsIn K S).isSome && PySem.W.typeIn K (.ref S) == some (.type "type")) = true := by
    have h2' : (PySem.W.clsIn K S).isSome = true := h2
    rw [h2', h3] <;> rfl
  show (if (PySem.W.subIn K (.ref S) (.type "BaseException") == some true) = true then (if ((PySem.W.clsIn K S).isSome && PySem.W.typeIn K (.ref S) == some (.type "type")) = true then PySem.W.subIn K (.ref S) (.ref S) else none) else none) = some true
  rw [if_pos e1, if_pos e2]
  exact h4
theorem tab_in {K : PySem.W.Frag} {x : Str} {f c P : Addr} {oc oc2 : Value} {od od2 : Option Addr} {fd : FuncData} {vs : Array Value} {sl sl2 : Array (Option Value)} (a : PySem.W.nsIn K mainGlobals x = some (some (.ref f))) (l : K.lookup f = some ⟨oc, od, .func fd, sl⟩) (e : fd.code = .ref c)
    (l2 : K.lookup c = some ⟨oc2, od2, .fields vs, sl2⟩) (v : (vs[11]? : Option Value) = some (.ref P)) : PySem.W.tabIn K x = some (c, P) := by
  unfold PySem.W.tabIn
  simp only [a, l, e, l2, v]
open PySem.W in
theorem all_mk {P : Program} {w : World} {K : PySem.W.Frag} {h : Heap} {mg : Str → Option Value} {fa : Addr} {q : Program} (X : K.In h) (G : h.Ns mainGlobals mg) (hfa : mg "law" = some (.ref fa))
    {f0 : Addr} {od0 an0 : Option Addr} {sl0 : Array (Option Value)} {oc0 kV0 dc0 pm0 cd0 ct0 : Value}
    {f1 : Addr} {od1 an1 : Option Addr} {sl1 : Array (Option Value)} {oc1 kV1 dc1 pm1 cd1 ct1 : Value}
    {f2 : Addr} {od2 an2 : Option Addr} {sl2 : Array (Option Value)} {oc2 kV2 dc2 pm2 cd2 ct2 : Value}
    {f3 : Addr} {od3 an3 : Option Addr} {sl3 : Array (Option Value)} {oc3 kV3 dc3 pm3 cd3 ct3 : Value}
    {f4 : Addr} {od4 an4 : Option Addr} {sl4 : Array (Option Value)} {oc4 kV4 dc4 pm4 cd4 ct4 : Value}
    {f5 : Addr} {od5 an5 : Option Addr} {sl5 : Array (Option Value)} {oc5 kV5 dc5 pm5 cd5 ct5 : Value}
    {f6 : Addr} {od6 an6 : Option Addr} {sl6 : Array (Option Value)} {oc6 kV6 dc6 pm6 cd6 ct6 : Value}
    {f7 : Addr} {od7 an7 : Option Addr} {sl7 : Array (Option Value)} {oc7 kV7 dc7 pm7 cd7 ct7 : Value}
    {f8 : Addr} {od8 an8 : Option Addr} {sl8 : Array (Option Value)} {oc8 kV8 dc8 pm8 cd8 ct8 : Value}
    {f9 : Addr} {od9 an9 : Option Addr} {sl9 : Array (Option Value)} {oc9 kV9 dc9 pm9 cd9 ct9 : Value}
    {f10 : Addr} {od10 an10 : Option Addr} {sl10 : Array (Option Value)} {oc10 kV10 dc10 pm10 cd10 ct10 : Value}
    {f11 : Addr} {od11 an11 : Option Addr} {sl11 : Array (Option Value)} {oc11 kV11 dc11 pm11 cd11 ct11 : Value}
    {f12 : Addr} {od12 an12 : Option Addr} {sl12 : Array (Option Value)} {oc12 kV12 dc12 pm12 cd12 ct12 : Value}
    {f13 : Addr} {od13 an13 : Option Addr} {sl13 : Array (Option Value)} {oc13 kV13 dc13 pm13 cd13 ct13 : Value}
    {f14 : Addr} {od14 an14 : Option Addr} {sl14 : Array (Option Value)} {oc14 kV14 dc14 pm14 cd14 ct14 : Value}
    {f15 : Addr} {od15 an15 : Option Addr} {sl15 : Array (Option Value)} {oc15 kV15 dc15 pm15 cd15 ct15 : Value}
    {f16 : Addr} {od16 an16 : Option Addr} {sl16 : Array (Option Value)} {oc16 kV16 dc16 pm16 cd16 ct16 : Value}
    {f17 : Addr} {od17 an17 : Option Addr} {sl17 : Array (Option Value)} {oc17 kV17 dc17 pm17 cd17 ct17 : Value}
    {f18 : Addr} {od18 an18 : Option Addr} {sl18 : Array (Option Value)} {oc18 kV18 dc18 pm18 cd18 ct18 : Value}
    {f19 : Addr} {od19 an19 : Option Addr} {sl19 : Array (Option Value)} {oc19 kV19 dc19 pm19 cd19 ct19 : Value}
    {f20 : Addr} {od20 an20 : Option Addr} {sl20 : Array (Option Value)} {oc20 kV20 dc20 pm20 cd20 ct20 : Value}
    {f21 : Addr} {od21 an21 : Option Addr} {sl21 : Array (Option Value)} {oc21 kV21 dc21 pm21 cd21 ct21 : Value}
    {f22 : Addr} {od22 an22 : Option Addr} {sl22 : Array (Option Value)} {oc22 kV22 dc22 pm22 cd22 ct22 : Value}
    {f23 : Addr} {od23 an23 : Option Addr} {sl23 : Array (Option Value)} {oc23 kV23 dc23 pm23 cd23 ct23 : Value}
    {f24 : Addr} {od24 an24 : Option Addr} {sl24 : Array (Option Value)} {oc24 kV24 dc24 pm24 cd24 ct24 : Value}
    {f25 : Addr} {od25 an25 : Option Addr} {sl25 : Array (Option Value)} {oc25 kV25 dc25 pm25 cd25 ct25 : Value}
    {f26 : Addr} {od26 an26 : Option Addr} {sl26 : Array (Option Value)} {oc26 kV26 dc26 pm26 cd26 ct26 : Value}
    {f27 : Addr} {od27 an27 : Option Addr} {sl27 : Array (Option Value)} {oc27 kV27 dc27 pm27 cd27 ct27 : Value}
    {f28 : Addr} {od28 an28 : Option Addr} {sl28 : Array (Option Value)} {oc28 kV28 dc28 pm28 cd28 ct28 : Value}
    {f29 : Addr} {od29 an29 : Option Addr} {sl29 : Array (Option Value)} {oc29 kV29 dc29 pm29 cd29 ct29 : Value}
    {f30 : Addr} {od30 an30 : Option Addr} {sl30 : Array (Option Value)} {oc30 kV30 dc30 pm30 cd30 ct30 : Value}
    {f31 : Addr} {od31 an31 : Option Addr} {sl31 : Array (Option Value)} {oc31 kV31 dc31 pm31 cd31 ct31 : Value}
    {f32 : Addr} {od32 an32 : Option Addr} {sl32 : Array (Option Value)} {oc32 kV32 dc32 pm32 cd32 ct32 : Value}
    {f33 : Addr} {od33 an33 : Option Addr} {sl33 : Array (Option Value)} {oc33 kV33 dc33 pm33 cd33 ct33 : Value}
    {CE gE NE : Addr} {nmE qE : Str} {bsE : List Value} {snE : List Str} {subE : List Value} {abE : Bool} {colE : Option Bool} {ddE : Option Addr} {m0E m1E m2E m3E m5E : Option Value} {bmE : List Value} {ocE dcE pmE cdE ctE : Value} {odE anE : Option Addr} {slE : Array (Option Value)} {p1E p2E q1E q2E q3E q4E : Pos}
    {CY gY NY : Addr} {nmY qY : Str} {bsY : List Value} {snY : List Str} {subY : List Value} {abY : Bool} {colY : Option Bool} {ddY : Option Addr} {m0Y m1Y m2Y m3Y m5Y : Option Value} {bmY : List Value} {ocY dcY pmY cdY ctY : Value} {odY anY : Option Addr} {slY : Array (Option Value)} {p1Y p2Y q1Y q2Y q3Y q4Y : Pos}
    {cTS pTS : Addr} {ocTS : Value} {odTS : Option Addr} {vsTS : Array Value} {slTS : Array (Option Value)}
    {aS aK aL : Addr} {eS : Array DictEntry} {nS nK nT : Nat} {eK0 eK1 eK2 : DictEntry} {oT : Option Addr} {slT : Array (Option Value)} {gLt gMt gWt gRt gIt gOt sS0t sS1t sS2t hK0t hK1t hK2t sK0t sK1t sK2t tT0 tT1 : Tok}
    (a0 : PySem.W.nsIn K mainGlobals "is_letter" = some (some (.ref f0)))
    (l0 : K.lookup f0 = some ⟨oc0, od0, .func (PySem.W.fnOf "is_letter" "is_letter" (defArgs sis_letter) (defBody sis_letter) (defScope sis_letter) .none kV0 dc0 pm0 an0 cd0 ct0), sl0⟩)
    (c0 : PySem.W.codeIn K cd0 "is_letter" = true)
    (k0 : PySem.W.keepIn K (.ref f0) = true)
    (a1 : PySem.W.nsIn K mainGlobals "is_text" = some (some (.ref f1)))
    (l1 : K.lookup f1 = some ⟨oc1, od1, .func (PySem.W.fnOf "is_text" "is_text" (defArgs sis_text) (defBody sis_text) (defScope sis_text) .none kV1 dc1 pm1 an1 cd1 ct1), sl1⟩)
    (c1 : PySem.W.codeIn K cd1 "is_text" = true)
    (k1 : PySem.W.keepIn K (.ref f1) = true)
    (a2 : PySem.W.nsIn K mainGlobals "is_name" = some (some (.ref f2)))
    (l2 : K.lookup f2 = some ⟨oc2, od2, .func (PySem.W.fnOf "is_name" "is_name" (defArgs sis_name) (defBody sis_name) (defScope sis_name) .none kV2 dc2 pm2 an2 cd2 ct2), sl2⟩)
    (c2 : PySem.W.codeIn K cd2 "is_name" = true)
    (k2 : PySem.W.keepIn K (.ref f2) = true)
    (a3 : PySem.W.nsIn K mainGlobals "is_list" = some (some (.ref f3)))
    (l3 : K.lookup f3 = some ⟨oc3, od3, .func (PySem.W.fnOf "is_list" "is_list" (defArgs sis_list) (defBody sis_list) (defScope sis_list) .none kV3 dc3 pm3 an3 cd3 ct3), sl3⟩)
    (c3 : PySem.W.codeIn K cd3 "is_list" = true)
    (k3 : PySem.W.keepIn K (.ref f3) = true)
    (a4 : PySem.W.nsIn K mainGlobals "parse_expression" = some (some (.ref f4)))
    (l4 : K.lookup f4 = some ⟨oc4, od4, .func (PySem.W.fnOf "parse_expression" "parse_expression" (defArgs sparse_expression) (defBody sparse_expression) (defScope sparse_expression) .none kV4 dc4 pm4 an4 cd4 ct4), sl4⟩)
    (c4 : PySem.W.codeIn K cd4 "parse_expression" = true)
    (k4 : PySem.W.keepIn K (.ref f4) = true)
    (a5 : PySem.W.nsIn K mainGlobals "may_follow" = some (some (.ref f5)))
    (l5 : K.lookup f5 = some ⟨oc5, od5, .func (PySem.W.fnOf "may_follow" "may_follow" (defArgs smay_follow) (defBody smay_follow) (defScope smay_follow) .none kV5 dc5 pm5 an5 cd5 ct5), sl5⟩)
    (c5 : PySem.W.codeIn K cd5 "may_follow" = true)
    (k5 : PySem.W.keepIn K (.ref f5) = true)
    (a6 : PySem.W.nsIn K mainGlobals "read_mark" = some (some (.ref f6)))
    (l6 : K.lookup f6 = some ⟨oc6, od6, .func (PySem.W.fnOf "read_mark" "read_mark" (defArgs sread_mark) (defBody sread_mark) (defScope sread_mark) .none kV6 dc6 pm6 an6 cd6 ct6), sl6⟩)
    (c6 : PySem.W.codeIn K cd6 "read_mark" = true)
    (k6 : PySem.W.keepIn K (.ref f6) = true)
    (a7 : PySem.W.nsIn K mainGlobals "name_end" = some (some (.ref f7)))
    (l7 : K.lookup f7 = some ⟨oc7, od7, .func (PySem.W.fnOf "name_end" "name_end" (defArgs sname_end) (defBody sname_end) (defScope sname_end) .none kV7 dc7 pm7 an7 cd7 ct7), sl7⟩)
    (c7 : PySem.W.codeIn K cd7 "name_end" = true)
    (k7 : PySem.W.keepIn K (.ref f7) = true)
    (a8 : PySem.W.nsIn K mainGlobals "group_tree" = some (some (.ref f8)))
    (l8 : K.lookup f8 = some ⟨oc8, od8, .func (PySem.W.fnOf "group_tree" "group_tree" (defArgs sgroup_tree) (defBody sgroup_tree) (defScope sgroup_tree) .none kV8 dc8 pm8 an8 cd8 ct8), sl8⟩)
    (c8 : PySem.W.codeIn K cd8 "group_tree" = true)
    (k8 : PySem.W.keepIn K (.ref f8) = true)
    (a9 : PySem.W.nsIn K mainGlobals "row_tree" = some (some (.ref f9)))
    (l9 : K.lookup f9 = some ⟨oc9, od9, .func (PySem.W.fnOf "row_tree" "row_tree" (defArgs srow_tree) (defBody srow_tree) (defScope srow_tree) .none kV9 dc9 pm9 an9 cd9 ct9), sl9⟩)
    (c9 : PySem.W.codeIn K cd9 "row_tree" = true)
    (k9 : PySem.W.keepIn K (.ref f9) = true)
    (a10 : PySem.W.nsIn K mainGlobals "needs_parentheses" = some (some (.ref f10)))
    (l10 : K.lookup f10 = some ⟨oc10, od10, .func (PySem.W.fnOf "needs_parentheses" "needs_parentheses" (defArgs sneeds_parentheses) (defBody sneeds_parentheses) (defScope sneeds_parentheses) .none kV10 dc10 pm10 an10 cd10 ct10), sl10⟩)
    (c10 : PySem.W.codeIn K cd10 "needs_parentheses" = true)
    (k10 : PySem.W.keepIn K (.ref f10) = true)
    (a11 : PySem.W.nsIn K mainGlobals "place_inside" = some (some (.ref f11)))
    (l11 : K.lookup f11 = some ⟨oc11, od11, .func (PySem.W.fnOf "place_inside" "place_inside" (defArgs splace_inside) (defBody splace_inside) (defScope splace_inside) .none kV11 dc11 pm11 an11 cd11 ct11), sl11⟩)
    (c11 : PySem.W.codeIn K cd11 "place_inside" = true)
    (k11 : PySem.W.keepIn K (.ref f11) = true)
    (a12 : PySem.W.nsIn K mainGlobals "is_tree" = some (some (.ref f12)))
    (l12 : K.lookup f12 = some ⟨oc12, od12, .func (PySem.W.fnOf "is_tree" "is_tree" (defArgs sis_tree) (defBody sis_tree) (defScope sis_tree) .none kV12 dc12 pm12 an12 cd12 ct12), sl12⟩)
    (c12 : PySem.W.codeIn K cd12 "is_tree" = true)
    (k12 : PySem.W.keepIn K (.ref f12) = true)
    (a13 : PySem.W.nsIn K mainGlobals "is_tree_at" = some (some (.ref f13)))
    (l13 : K.lookup f13 = some ⟨oc13, od13, .func (PySem.W.fnOf "is_tree_at" "is_tree_at" (defArgs sis_tree_at) (defBody sis_tree_at) (defScope sis_tree_at) .none kV13 dc13 pm13 an13 cd13 ct13), sl13⟩)
    (c13 : PySem.W.codeIn K cd13 "is_tree_at" = true)
    (k13 : PySem.W.keepIn K (.ref f13) = true)
    (a14 : PySem.W.nsIn K mainGlobals "are_trees_at" = some (some (.ref f14)))
    (l14 : K.lookup f14 = some ⟨oc14, od14, .func (PySem.W.fnOf "are_trees_at" "are_trees_at" (defArgs sare_trees_at) (defBody sare_trees_at) (defScope sare_trees_at) .none kV14 dc14 pm14 an14 cd14 ct14), sl14⟩)
    (c14 : PySem.W.codeIn K cd14 "are_trees_at" = true)
    (k14 : PySem.W.keepIn K (.ref f14) = true)
    (a15 : PySem.W.nsIn K mainGlobals "require_tree" = some (some (.ref f15)))
    (l15 : K.lookup f15 = some ⟨oc15, od15, .func (PySem.W.fnOf "require_tree" "require_tree" (defArgs srequire_tree) (defBody srequire_tree) (defScope srequire_tree) .none kV15 dc15 pm15 an15 cd15 ct15), sl15⟩)
    (c15 : PySem.W.codeIn K cd15 "require_tree" = true)
    (k15 : PySem.W.keepIn K (.ref f15) = true)
    (a16 : PySem.W.nsIn K mainGlobals "expression_text" = some (some (.ref f16)))
    (l16 : K.lookup f16 = some ⟨oc16, od16, .func (PySem.W.fnOf "expression_text" "expression_text" (defArgs sexpression_text) (defBody sexpression_text) (defScope sexpression_text) .none kV16 dc16 pm16 an16 cd16 ct16), sl16⟩)
    (c16 : PySem.W.codeIn K cd16 "expression_text" = true)
    (k16 : PySem.W.keepIn K (.ref f16) = true)
    (a17 : PySem.W.nsIn K mainGlobals "written_at" = some (some (.ref f17)))
    (l17 : K.lookup f17 = some ⟨oc17, od17, .func (PySem.W.fnOf "written_at" "written_at" (defArgs swritten_at) (defBody swritten_at) (defScope swritten_at) .none kV17 dc17 pm17 an17 cd17 ct17), sl17⟩)
    (c17 : PySem.W.codeIn K cd17 "written_at" = true)
    (k17 : PySem.W.keepIn K (.ref f17) = true)
    (a18 : PySem.W.nsIn K mainGlobals "words_of" = some (some (.ref f18)))
    (l18 : K.lookup f18 = some ⟨oc18, od18, .func (PySem.W.fnOf "words_of" "words_of" (defArgs swords_of) (defBody swords_of) (defScope swords_of) .none kV18 dc18 pm18 an18 cd18 ct18), sl18⟩)
    (c18 : PySem.W.codeIn K cd18 "words_of" = true)
    (k18 : PySem.W.keepIn K (.ref f18) = true)
    (a19 : PySem.W.nsIn K mainGlobals "letters_of" = some (some (.ref f19)))
    (l19 : K.lookup f19 = some ⟨oc19, od19, .func (PySem.W.fnOf "letters_of" "letters_of" (defArgs sletters_of) (defBody sletters_of) (defScope sletters_of) .none kV19 dc19 pm19 an19 cd19 ct19), sl19⟩)
    (c19 : PySem.W.codeIn K cd19 "letters_of" = true)
    (k19 : PySem.W.keepIn K (.ref f19) = true)
    (a20 : PySem.W.nsIn K mainGlobals "names_of" = some (some (.ref f20)))
    (l20 : K.lookup f20 = some ⟨oc20, od20, .func (PySem.W.fnOf "names_of" "names_of" (defArgs snames_of) (defBody snames_of) (defScope snames_of) .none kV20 dc20 pm20 an20 cd20 ct20), sl20⟩)
    (c20 : PySem.W.codeIn K cd20 "names_of" = true)
    (k20 : PySem.W.keepIn K (.ref f20) = true)
    (a21 : PySem.W.nsIn K mainGlobals "with_names" = some (some (.ref f21)))
    (l21 : K.lookup f21 = some ⟨oc21, od21, .func (PySem.W.fnOf "with_names" "with_names" (defArgs swith_names) (defBody swith_names) (defScope swith_names) .none kV21 dc21 pm21 an21 cd21 ct21), sl21⟩)
    (c21 : PySem.W.codeIn K cd21 "with_names" = true)
    (k21 : PySem.W.keepIn K (.ref f21) = true)
    (a22 : PySem.W.nsIn K mainGlobals "is_tree_table" = some (some (.ref f22)))
    (l22 : K.lookup f22 = some ⟨oc22, od22, .func (PySem.W.fnOf "is_tree_table" "is_tree_table" (defArgs sis_tree_table) (defBody sis_tree_table) (defScope sis_tree_table) .none kV22 dc22 pm22 an22 cd22 ct22), sl22⟩)
    (c22 : PySem.W.codeIn K cd22 "is_tree_table" = true)
    (k22 : PySem.W.keepIn K (.ref f22) = true)
    (a23 : PySem.W.nsIn K mainGlobals "replaced" = some (some (.ref f23)))
    (l23 : K.lookup f23 = some ⟨oc23, od23, .func (PySem.W.fnOf "replaced" "replaced" (defArgs sreplaced) (defBody sreplaced) (defScope sreplaced) .none kV23 dc23 pm23 an23 cd23 ct23), sl23⟩)
    (c23 : PySem.W.codeIn K cd23 "replaced" = true)
    (k23 : PySem.W.keepIn K (.ref f23) = true)
    (a24 : PySem.W.nsIn K mainGlobals "_law_cell" = some (some (.ref f24)))
    (l24 : K.lookup f24 = some ⟨oc24, od24, .func (PySem.W.fnOf "_law_cell" "_law_cell" (defArgs s_law_cell) (defBody s_law_cell) (defScope s_law_cell) .none kV24 dc24 pm24 an24 cd24 ct24), sl24⟩)
    (c24 : PySem.W.codeIn K cd24 "_law_cell" = true)
    (k24 : PySem.W.keepIn K (.ref f24) = true)
    (a25 : PySem.W.nsIn K mainGlobals "_law_box" = some (some (.ref f25)))
    (l25 : K.lookup f25 = some ⟨oc25, od25, .func (PySem.W.fnOf "_law_box" "_law_box" (defArgs s_law_box) (defBody s_law_box) (defScope s_law_box) .none kV25 dc25 pm25 an25 cd25 ct25), sl25⟩)
    (c25 : PySem.W.codeIn K cd25 "_law_box" = true)
    (k25 : PySem.W.keepIn K (.ref f25) = true)
    (a26 : PySem.W.nsIn K mainGlobals "_law_take" = some (some (.ref f26)))
    (l26 : K.lookup f26 = some ⟨oc26, od26, .func (PySem.W.fnOf "_law_take" "_law_take" (defArgs s_law_take) (defBody s_law_take) (defScope s_law_take) .none kV26 dc26 pm26 an26 cd26 ct26), sl26⟩)
    (c26 : PySem.W.codeIn K cd26 "_law_take" = true)
    (k26 : PySem.W.keepIn K (.ref f26) = true)
    (a27 : PySem.W.nsIn K mainGlobals "_law_tree" = some (some (.ref f27)))
    (l27 : K.lookup f27 = some ⟨oc27, od27, .func (PySem.W.fnOf "_law_tree" "_law_tree" (defArgs s_law_tree) (defBody s_law_tree) (defScope s_law_tree) .none kV27 dc27 pm27 an27 cd27 ct27), sl27⟩)
    (c27 : PySem.W.codeIn K cd27 "_law_tree" = true)
    (k27 : PySem.W.keepIn K (.ref f27) = true)
    (a28 : PySem.W.nsIn K mainGlobals "_law_put" = some (some (.ref f28)))
    (l28 : K.lookup f28 = some ⟨oc28, od28, .func (PySem.W.fnOf "_law_put" "_law_put" (defArgs s_law_put) (defBody s_law_put) (defScope s_law_put) .none kV28 dc28 pm28 an28 cd28 ct28), sl28⟩)
    (c28 : PySem.W.codeIn K cd28 "_law_put" = true)
    (k28 : PySem.W.keepIn K (.ref f28) = true)
    (a29 : PySem.W.nsIn K mainGlobals "_law_many" = some (some (.ref f29)))
    (l29 : K.lookup f29 = some ⟨oc29, od29, .func (PySem.W.fnOf "_law_many" "_law_many" (defArgs s_law_many) (defBody s_law_many) (defScope s_law_many) .none kV29 dc29 pm29 an29 cd29 ct29), sl29⟩)
    (c29 : PySem.W.codeIn K cd29 "_law_many" = true)
    (k29 : PySem.W.keepIn K (.ref f29) = true)
    (a30 : PySem.W.nsIn K mainGlobals "_law_no_tree" = some (some (.ref f30)))
    (l30 : K.lookup f30 = some ⟨oc30, od30, .func (PySem.W.fnOf "_law_no_tree" "_law_no_tree" (defArgs s_law_no_tree) (defBody s_law_no_tree) (defScope s_law_no_tree) .none kV30 dc30 pm30 an30 cd30 ct30), sl30⟩)
    (c30 : PySem.W.codeIn K cd30 "_law_no_tree" = true)
    (k30 : PySem.W.keepIn K (.ref f30) = true)
    (a31 : PySem.W.nsIn K mainGlobals "_law_raised" = some (some (.ref f31)))
    (l31 : K.lookup f31 = some ⟨oc31, od31, .func (PySem.W.fnOf "_law_raised" "_law_raised" (defArgs s_law_raised) (defBody s_law_raised) (defScope s_law_raised) .none kV31 dc31 pm31 an31 cd31 ct31), sl31⟩)
    (c31 : PySem.W.codeIn K cd31 "_law_raised" = true)
    (k31 : PySem.W.keepIn K (.ref f31) = true)
    (a32 : PySem.W.nsIn K mainGlobals "_law_refused" = some (some (.ref f32)))
    (l32 : K.lookup f32 = some ⟨oc32, od32, .func (PySem.W.fnOf "_law_refused" "_law_refused" (defArgs s_law_refused) (defBody s_law_refused) (defScope s_law_refused) .none kV32 dc32 pm32 an32 cd32 ct32), sl32⟩)
    (c32 : PySem.W.codeIn K cd32 "_law_refused" = true)
    (k32 : PySem.W.keepIn K (.ref f32) = true)
    (a33 : PySem.W.nsIn K mainGlobals "law" = some (some (.ref f33)))
    (l33 : K.lookup f33 = some ⟨oc33, od33, .func (PySem.W.fnOf "law" "law" (defArgs slaw) (defBody slaw) (defScope slaw) .none kV33 dc33 pm33 an33 cd33 ct33), sl33⟩)
    (c33 : PySem.W.codeIn K cd33 "law" = true)
    (k33 : PySem.W.keepIn K (.ref f33) = true)
    (gL : PySem.W.nsIn K mainGlobals "LONGEST_NAME" = some (some (.int 8 gLt)))
    (gM : PySem.W.nsIn K mainGlobals "MOST_OPEN" = some (some (.int 20 gMt)))
    (gW : PySem.W.nsIn K mainGlobals "WHOLE" = some (some (.int 0 gWt)))
    (gR : PySem.W.nsIn K mainGlobals "ROW" = some (some (.int 1 gRt)))
    (gI : PySem.W.nsIn K mainGlobals "ITEM" = some (some (.int 2 gIt)))
    (gO : PySem.W.nsIn K mainGlobals "OPERAND" = some (some (.int 3 gOt)))
    (gS : PySem.W.nsIn K mainGlobals "SIGNS_BY_KIND" = some (some (.ref aS)))
    (lS : K.lookup aS = some ⟨.type "dict", none, .dict eS nS, #[]⟩)
    (kS : PySem.W.KeysLit w.params eS.toList)
    (wS : (aS == sysModules) = false)
    (sS0 : PySem.W.nsIn K aS "many" = some (some (.str "*" sS0t)))
    (sS1 : PySem.W.nsIn K aS "some" = some (some (.str "+" sS1t)))
    (sS2 : PySem.W.nsIn K aS "maybe" = some (some (.str "?" sS2t)))
    (oS0 : PySem.W.nsIn K aS "none" = some none)
    (oS1 : PySem.W.nsIn K aS "empty" = some none)
    (oS2 : PySem.W.nsIn K aS "letter" = some none)
    (oS3 : PySem.W.nsIn K aS "name" = some none)
    (oS4 : PySem.W.nsIn K aS "sequence" = some none)
    (oS5 : PySem.W.nsIn K aS "choice" = some none)
    (oS6 : PySem.W.nsIn K aS "more" = some none)
    (oS7 : PySem.W.nsIn K aS "None" = some none)
    (oS8 : PySem.W.nsIn K aS "Letter" = some none)
    (gK : PySem.W.nsIn K mainGlobals "KINDS_BY_SIGN" = some (some (.ref aK)))
    (lK : K.lookup aK = some ⟨.type "dict", none, .dict #[eK0, eK1, eK2] nK, #[]⟩)
    (kK : PySem.W.KeysLit w.params (#[eK0, eK1, eK2] : Array DictEntry).toList)
    (wK : (aK == sysModules) = false)
    (hK0 : eK0.key = .str "*" hK0t)
    (sK0 : PySem.W.nsIn K aK "*" = some (some (.str "many" sK0t)))
    (hK1 : eK1.key = .str "+" hK1t)
    (sK1 : PySem.W.nsIn K aK "+" = some (some (.str "some" sK1t)))
    (hK2 : eK2.key = .str "?" hK2t)
    (sK2 : PySem.W.nsIn K aK "?" = some (some (.str "maybe" sK2t)))
    (gT : PySem.W.nsIn K mainGlobals "LISTED" = some (some (.ref aL)))
    (lT : K.lookup aL = some ⟨.type "tuple", oT, .seq #[.str "sequence" tT0, .str "choice" tT1] nT, slT⟩)
    (aCE : PySem.W.nsIn K mainGlobals "InvalidTree" = some (some (.ref CE)))
    (xLE : K.lookup CE = some (excClassObj nmE qE CE NE bsE bmE true snE subE abE colE ddE m0E m1E m2E m3E m5E "ValueError.__new__"))
    (vbE : PySem.HandSPX.refsVE bmE = true)
    (saE : PySem.W.findIn K (.ref CE) "__setattr__" = some (some (.builtin "object.__setattr__")))
    (gaE : PySem.W.findIn K (.ref CE) "__getattribute__" = some (some (.builtin "BaseException.__getattribute__")))
    (ggE : PySem.W.findIn K (.ref CE) "__getattr__" = some none)
    (nbE : PySem.W.findIn K (.ref CE) "value" = some none)
    (iCE : PySem.W.findIn K (.ref CE) "__init__" = some (some (.ref gE)))
    (tfE : PySem.W.typeIn K (.ref gE) = some (.type "function"))
    (lfE : K.lookup gE = some ⟨ocE, odE, .func (PySem.W.fnOf "__init__" "InvalidTree.__init__" (PySem.EzValue.iA p1E p2E) (PySem.EzValue.iB q1E q2E q3E q4E) PySem.EzValue.iS .none .none dcE pmE anE cdE ctE), slE⟩)
    (cfE : PySem.W.codeIn K cdE "InvalidTree.__init__" = true)
    (kCE : PySem.W.keepIn K (.ref CE) = true)
    (eCE : PySem.W.subIn K (.ref CE) (.type "BaseException") = some true)
    (tCE : PySem.W.typeIn K (.ref CE) = some (.type "type"))
    (hCE : PySem.W.hasDictIn K CE = true)
    (jCE : PySem.W.isClsIn K CE = true)
    (sCE : PySem.W.subIn K (.ref CE) (.ref CE) = some true)
    (aCY : PySem.W.nsIn K mainGlobals "InvalidText" = some (some (.ref CY)))
    (xLY : K.lookup CY = some (excClassObj nmY qY CY NY bsY bmY true snY subY abY colY ddY m0Y m1Y m2Y m3Y m5Y "ValueError.__new__"))
    (vbY : PySem.HandSPX.refsVE bmY = true)
    (saY : PySem.W.findIn K (.ref CY) "__setattr__" = some (some (.builtin "object.__setattr__")))
    (gaY : PySem.W.findIn K (.ref CY) "__getattribute__" = some (some (.builtin "BaseException.__getattribute__")))
    (ggY : PySem.W.findIn K (.ref CY) "__getattr__" = some none)
    (nbY : PySem.W.findIn K (.ref CY) "value" = some none)
    (iCY : PySem.W.findIn K (.ref CY) "__init__" = some (some (.ref gY)))
    (tfY : PySem.W.typeIn K (.ref gY) = some (.type "function"))
    (lfY : K.lookup gY = some ⟨ocY, odY, .func (PySem.W.fnOf "__init__" "InvalidText.__init__" (PySem.EzValue.iA p1Y p2Y) (PySem.EzValue.iB q1Y q2Y q3Y q4Y) PySem.EzValue.iS .none .none dcY pmY anY cdY ctY), slY⟩)
    (cfY : PySem.W.codeIn K cdY "InvalidText.__init__" = true)
    (kCY : PySem.W.keepIn K (.ref CY) = true)
    (eCY : PySem.W.subIn K (.ref CY) (.type "BaseException") = some true)
    (tCY : PySem.W.typeIn K (.ref CY) = some (.type "type"))
    (hCY : PySem.W.hasDictIn K CY = true)
    (jCY : PySem.W.isClsIn K CY = true)
    (sCY : PySem.W.subIn K (.ref CY) (.ref CY) = some true)
    (xn : PySem.W.specialIn K (.builtin "object.__class__") "__get__" = some (some (.builtin "getset_descriptor.__get__")))
    (xt : PySem.W.takesIn K (.builtin "object.__class__") = some true)
    (xaE : PySem.W.findIn K (.ref CE) "__class__" = some (some (.builtin "object.__class__")))
    (xmE : PySem.W.mroIn K CE (.type "object") = some true)
    (xiE : PySem.W.subIn K (.ref CE) (.type "int") = some false)
    (xsE : PySem.W.subIn K (.ref CE) (.type "str") = some false)
    (xaY : PySem.W.findIn K (.ref CY) "__class__" = some (some (.builtin "object.__class__")))
    (xmY : PySem.W.mroIn K CY (.type "object") = some true)
    (xiY : PySem.W.subIn K (.ref CY) (.type "int") = some false)
    (xsY : PySem.W.subIn K (.ref CY) (.type "str") = some false)
    (uEY : PySem.W.subIn K (.ref CE) (.ref CY) = some false)
    (uYE : PySem.W.subIn K (.ref CY) (.ref CE) = some false)
    (nEY : ((Value.ref CE) == (Value.ref CY)) = false)
    (z_isinstance : PySem.W.nsIn K mainGlobals "isinstance" = some none)
    (z_str : PySem.W.nsIn K mainGlobals "str" = some none)
    (z_list : PySem.W.nsIn K mainGlobals "list" = some none)
    (z_tuple : PySem.W.nsIn K mainGlobals "tuple" = some none)
    (z_len : PySem.W.nsIn K mainGlobals "len" = some none)
    (z_all : PySem.W.nsIn K mainGlobals "all" = some none)
    (z_set : PySem.W.nsIn K mainGlobals "set" = some none)
    (z_sorted : PySem.W.nsIn K mainGlobals "sorted" = some none)
    (z_dict : PySem.W.nsIn K mainGlobals "dict" = some none)
    (z_range : PySem.W.nsIn K mainGlobals "range" = some none)
    (z_max : PySem.W.nsIn K mainGlobals "max" = some none)
    (z_min : PySem.W.nsIn K mainGlobals "min" = some none)
    (z_repr : PySem.W.nsIn K mainGlobals "repr" = some none)
    (z_sum : PySem.W.nsIn K mainGlobals "sum" = some none)
    (tES : cd32 = .ref cTS)
    (tLS : K.lookup cTS = some ⟨ocTS, odTS, .fields vsTS, slTS⟩)
    (tVS : (vsTS[11]? : Option Value) = some (.ref pTS))
    (tNS : K.lookup pTS = none)
    (tRS : ((PyProof.Rows.recsOf q).find? fun d => d.name == ("_law_refused" : Str)).isSome = true)
    : ∃ xs : List (Str × Addr × Addr), TabsIn K q xs ∧ ∃ fd : FuncData, (∀ (s : Shared) (u : Value), BindsTo s fd ⟨[u], []⟩ [("_law_script", u)]) ∧ ∀ base : Heap, K.In base → base.Ns mainGlobals mg → SysIn base → (∀ e ∈ xs, LamX.TabB base mg e.2.1 e.2.2) → FnG P w K mg base CX0 137 fa fd ["_law_script"] (spTop K (xs.map (·.2))) := by
  have e := hfa.symm.trans (PySem.W.mg_of X G a33)
  cases e
  have tIS : PySem.W.tabIn K "_law_refused" = some (cTS, pTS) := tab_in a32 l32 tES tLS tVS
  have lowE : PySem.EzValue.LowTxt K mg "InvalidTree" "InvalidTree.__init__" CE gE :=
    { gC := PySem.W.mg_of X G aCE, cls := ⟨nmE, qE, NE, bsE, bmE, snE, subE, abE, colE, ddE, m0E, m1E, m2E, m3E, m5E, xLE, vbE⟩, sa := saE, ga := gaE, gg := ggE, noN := nbE, iC := iCE, tC := tfE, kC := kCE, exC := eCE, tyC := tCE, hdC := hCE,
      te := exm_selfG eCE jCE tCE sCE, fn := ⟨_, _, _, _, _, _, _, _, _, _, _, _, _, _, lfE, cfE⟩ }
  have lowY : PySem.EzValue.LowTxt K mg "InvalidText" "InvalidText.__init__" CY gY :=
    { gC := PySem.W.mg_of X G aCY, cls := ⟨nmY, qY, NY, bsY, bmY, snY, subY, abY, colY, ddY, m0Y, m1Y, m2Y, m3Y, m5Y, xLY, vbY⟩, sa := saY, ga := gaY, gg := ggY, noN := nbY, iC := iCY, tC := tfY, kC := kCY, exC := eCY, tyC := tCY, hdC := hCY,
      te := exm_selfG eCY jCY tCY sCY, fn := ⟨_, _, _, _, _, _, _, _, _, _, _, _, _, _, lfY, cfY⟩ }
  have F0 := fun_mk (st := sis_letter) l0 c0 k0
  have m0 := PySem.W.mg_of X G a0
  have F1 := fun_mk (st := sis_text) l1 c1 k1
  have m1 := PySem.W.mg_of X G a1
  have F2 := fun_mk (st := sis_name) l2 c2 k2
  have m2 := PySem.W.mg_of X G a2
  have F3 := fun_mk (st := sis_list) l3 c3 k3
  have m3 := PySem.W.mg_of X G a3
  have F4 := fun_mk (st := sparse_expression) l4 c4 k4
  have m4 := PySem.W.mg_of X G a4
  have F5 := fun_mk (st := smay_follow) l5 c5 k5
  have m5 := PySem.W.mg_of X G a5
  have F6 := fun_mk (st := sread_mark) l6 c6 k6
  have m6 := PySem.W.mg_of X G a6
  have F7 := fun_mk (st := sname_end) l7 c7 k7
  have m7 := PySem.W.mg_of X G a7
  have F8 := fun_mk (st := sgroup_tree) l8 c8 k8
  have m8 := PySem.W.mg_of X G a8
  have F9 := fun_mk (st := srow_tree) l9 c9 k9
  have m9 := PySem.W.mg_of X G a9
  have F10 := fun_mk (st := sneeds_parentheses) l10 c10 k10
  have m10 := PySem.W.mg_of X G a10
  have F11 := fun_mk (st := splace_inside) l11 c11 k11
  have m11 := PySem.W.mg_of X G a11
  have F12 := fun_mk (st := sis_tree) l12 c12 k12
  have m12 := PySem.W.mg_of X G a12
  have F13 := fun_mk (st := sis_tree_at) l13 c13 k13
  have m13 := PySem.W.mg_of X G a13
  have F14 := fun_mk (st := sare_trees_at) l14 c14 k14
  have m14 := PySem.W.mg_of X G a14
  have F15 := fun_mk (st := srequire_tree) l15 c15 k15
  have m15 := PySem.W.mg_of X G a15
  have F16 := fun_mk (st := sexpression_text) l16 c16 k16
  have m16 := PySem.W.mg_of X G a16
  have F17 := fun_mk (st := swritten_at) l17 c17 k17
  have m17 := PySem.W.mg_of X G a17
  have F18 := fun_mk (st := swords_of) l18 c18 k18
  have m18 := PySem.W.mg_of X G a18
  have F19 := fun_mk (st := sletters_of) l19 c19 k19
  have m19 := PySem.W.mg_of X G a19
  have F20 := fun_mk (st := snames_of) l20 c20 k20
  have m20 := PySem.W.mg_of X G a20
  have F21 := fun_mk (st := swith_names) l21 c21 k21
  have m21 := PySem.W.mg_of X G a21
  have F22 := fun_mk (st := sis_tree_table) l22 c22 k22
  have m22 := PySem.W.mg_of X G a22
  have F23 := fun_mk (st := sreplaced) l23 c23 k23
  have m23 := PySem.W.mg_of X G a23
  have F24 := fun_mk (st := s_law_cell) l24 c24 k24
  have m24 := PySem.W.mg_of X G a24
  have F25 := fun_mk (st := s_law_box) l25 c25 k25
  have m25 := PySem.W.mg_of X G a25
  have F26 := fun_mk (st := s_law_take) l26 c26 k26
  have m26 := PySem.W.mg_of X G a26
  have F27 := fun_mk (st := s_law_tree) l27 c27 k27
  have m27 := PySem.W.mg_of X G a27
  have F28 := fun_mk (st := s_law_put) l28 c28 k28
  have m28 := PySem.W.mg_of X G a28
  have F29 := fun_mk (st := s_law_many) l29 c29 k29
  have m29 := PySem.W.mg_of X G a29
  have F30 := fun_mk (st := s_law_no_tree) l30 c30 k30
  have m30 := PySem.W.mg_of X G a30
  have F31 := fun_mk (st := s_law_raised) l31 c31 k31
  have m31 := PySem.W.mg_of X G a31
  have F32 := fun_mk (st := s_law_refused) l32 c32 k32
  have m32 := PySem.W.mg_of X G a32
  have F33 := fun_mk (st := slaw) l33 c33 k33
  have m33 := PySem.W.mg_of X G a33
  refine ⟨[("_law_refused", cTS, pTS)], fun e he => ?_, ?_⟩
  · simp only [List.mem_cons, List.not_mem_nil, or_false] at he
    subst he
    exact ⟨tIS, tNS, tRS⟩
  have b0 := F0.binds (ps := ["value"]) fun _ _ _ _ _ _ us hl => match us, hl with | [_], _ => rfl
  have b1 := F1.binds (ps := ["value"]) fun _ _ _ _ _ _ us hl => match us, hl with | [_], _ => rfl
  have b2 := F2.binds (ps := ["value"]) fun _ _ _ _ _ _ us hl => match us, hl with | [_], _ => rfl
  have b3 := F3.binds (ps := ["value"]) fun _ _ _ _ _ _ us hl => match us, hl with | [_], _ => rfl
  have b4 := F4.binds (ps := ["text"]) fun _ _ _ _ _ _ us hl => match us, hl with | [_], _ => rfl
  have b5 := F5.binds (ps := ["mark", "before", "depth"]) fun _ _ _ _ _ _ us hl => match us, hl with | [_, _, _], _ => rfl
  have b6 := F6.binds (ps := ["groups", "mark"]) fun _ _ _ _ _ _ us hl => match us, hl with | [_, _], _ => rfl
  have b7 := F7.binds (ps := ["text", "start"]) fun _ _ _ _ _ _ us hl => match us, hl with | [_, _], _ => rfl
  have b8 := F8.binds (ps := ["rows"]) fun _ _ _ _ _ _ us hl => match us, hl with | [_], _ => rfl
  have b9 := F9.binds (ps := ["items"]) fun _ _ _ _ _ _ us hl => match us, hl with | [_], _ => rfl
  have b10 := F10.binds (ps := ["kind", "place"]) fun _ _ _ _ _ _ us hl => match us, hl with | [_, _], _ => rfl
  have b11 := F11.binds (ps := ["kind"]) fun _ _ _ _ _ _ us hl => match us, hl with | [_], _ => rfl
  have b12 := F12.binds (ps := ["value"]) fun _ _ _ _ _ _ us hl => match us, hl with | [_], _ => rfl
  have b13 := F13.binds (ps := ["value", "place", "room"]) fun _ _ _ _ _ _ us hl => match us, hl with | [_, _, _], _ => rfl
  have b14 := F14.binds (ps := ["value", "place", "room"]) fun _ _ _ _ _ _ us hl => match us, hl with | [_, _, _], _ => rfl
  have b15 := F15.binds (ps := ["value"]) fun _ _ _ _ _ _ us hl => match us, hl with | [_], _ => rfl
  have b16 := F16.binds (ps := ["tree"]) fun _ _ _ _ _ _ us hl => match us, hl with | [_], _ => rfl
  have b17 := F17.binds (ps := ["tree", "place"]) fun _ _ _ _ _ _ us hl => match us, hl with | [_, _], _ => rfl
  have b18 := F18.binds (ps := ["tree", "kind"]) fun _ _ _ _ _ _ us hl => match us, hl with | [_, _], _ => rfl
  have b19 := F19.binds (ps := ["tree"]) fun _ _ _ _ _ _ us hl => match us, hl with | [_], _ => rfl
  have b20 := F20.binds (ps := ["tree"]) fun _ _ _ _ _ _ us hl => match us, hl with | [_], _ => rfl
  have b21 := F21.binds (ps := ["tree", "table"]) fun _ _ _ _ _ _ us hl => match us, hl with | [_, _], _ => rfl
  have b22 := F22.binds (ps := ["value"]) fun _ _ _ _ _ _ us hl => match us, hl with | [_], _ => rfl
  have b23 := F23.binds (ps := ["tree", "table"]) fun _ _ _ _ _ _ us hl => match us, hl with | [_, _], _ => rfl
  have b24 := F24.binds (ps := ["_law_script", "_law_k"]) fun _ _ _ _ _ _ us hl => match us, hl with | [_, _], _ => rfl
  have b25 := F25.binds (ps := ["_law_cell_here"]) fun _ _ _ _ _ _ us hl => match us, hl with | [_], _ => rfl
  have b26 := F26.binds (ps := ["_law_box_here", "_law_many_here"]) fun _ _ _ _ _ _ us hl => match us, hl with | [_, _], _ => rfl
  have b27 := F27.binds (ps := ["_law_box_here", "_law_letters", "_law_names"]) fun _ _ _ _ _ _ us hl => match us, hl with | [_, _, _], _ => rfl
  have b28 := F28.binds (ps := ["_law_tree_here", "_law_left", "_law_value"]) fun _ _ _ _ _ _ us hl => match us, hl with | [_, _, _], _ => rfl
  have b29 := F29.binds (ps := ["_law_tree_here"]) fun _ _ _ _ _ _ us hl => match us, hl with | [_], _ => rfl
  have b30 := F30.binds (ps := ["_law_box_here"]) fun _ _ _ _ _ _ us hl => match us, hl with | [_], _ => rfl
  have b31 := F31.binds (ps := ["_law_ask", "_law_value"]) fun _ _ _ _ _ _ us hl => match us, hl with | [_, _], _ => rfl
  have b32 := F32.binds (ps := ["_law_value"]) fun _ _ _ _ _ _ us hl => match us, hl with | [_], _ => rfl
  refine ⟨PySem.W.fnOf "law" "law" (defArgs slaw) (defBody slaw) (defScope slaw) .none kV33 dc33 pm33 an33 cd33 ct33, fun s u => .of_eq rfl, fun base _ _ hs tbs => ?_⟩
  have TB : LamX.TabB base mg cTS pTS := tbs ("_law_refused", cTS, pTS) (List.mem_singleton.mpr rfl)
  have zN : ∀ {x : Str}, PySem.W.nsIn K mainGlobals x = some none → mg x = none := fun h => PySem.W.mg_none_of X G h
  have T : Txt w K mg base aS aL eS nS := { sys := hs, q_LISTED := fun H => .inr ⟨_, _, _, lT, rfl, rfl, (by show 2 ≤ sizeLine; decide), .cons ⟨_, rfl⟩ (.cons ⟨_, rfl⟩ .nil)⟩, g_LISTED := ⟨_, PySem.W.mg_of X G gT, rfl⟩, g_SIGNS_BY_KIND := ⟨_, PySem.W.mg_of X G gS, rfl⟩, d_SIGNS_BY_KIND := ⟨lS, kS, wS⟩, i_SIGNS_BY_KIND := sgn_in sS0 sS1 sS2 oS0 oS1 oS2 oS3 oS4 oS5, o_SIGNS_BY_KIND := odd_in oS6 oS7 oS8, g_LONGEST_NAME := ⟨_, PySem.W.mg_of X G gL, ⟨_, rfl⟩⟩, g_MOST_OPEN := ⟨_, PySem.W.mg_of X G gM, ⟨_, rfl⟩⟩, g_WHOLE := ⟨_, PySem.W.mg_of X G gW, ⟨_, rfl⟩⟩, g_ROW := ⟨_, PySem.W.mg_of X G gR, ⟨_, rfl⟩⟩, g_ITEM := ⟨_, PySem.W.mg_of X G gI, ⟨_, rfl⟩⟩, g_OPERAND := ⟨_, PySem.W.mg_of X G gO, ⟨_, rfl⟩⟩, z_isinstance := zN z_isinstance, z_str := zN z_str, z_list := zN z_list, z_tuple := zN z_tuple, z_len := zN z_len, z_all := zN z_all, z_repr := zN z_repr, z_dict := zN z_dict }
  have TP : TxP w K mg aK #[eK0, eK1, eK2] nK := { g_KINDS_BY_SIGN := ⟨_, PySem.W.mg_of X G gK, rfl⟩, d_KINDS_BY_SIGN := ⟨lK, kK, wK⟩, i_KINDS_BY_SIGN := sig_in lK hK0 hK1 hK2, v_KINDS_BY_SIGN := tx_in (x := sgTx) (y := sSgn) sK0 sK1 sK2 }
  have U : Uni K CE CY := { at' := exm_two (exm_selfG eCE jCE tCE sCE) (exm_noG eCY jCY tCY uEY) rfl, ay := exm_two (exm_noG eCE jCE tCE uYE) (exm_selfG eCY jCY tCY sCY) rfl, kt := kit_ref nEY jCY tCY uEY, ky := kit_selfR, xt := { hcl := jCE, hga := gaE, hgt := ggE, hsub := eCE, ha := xaE, hn := xn, htk := xt, hm := xmE, noI := kit_sub rfl (by decide +kernel) xiE, noS := kit_sub rfl (by decide +kernel) xsE }, xy := { hcl := jCY, hga := gaY, hgt := ggY, hsub := eCY, ha := xaY, hn := xn, htk := xt, hm := xmY, noI := kit_sub rfl (by decide +kernel) xiY, noS := kit_sub rfl (by decide +kernel) xsY } }
  have D0 : Df P w K mg base CX0 1 "is_letter" _ _ ["value"] (spAsk isLet) := ⟨ok_isletter F0 T, m0, k0, b0⟩
  have D1 : Df P w K mg base CX0 1 "is_text" _ _ ["value"] (spAsk isTxt) := ⟨ok_istext F1 T, m1, k1, b1⟩
  have D2 : Df P w K mg base CX0 2 "is_name" _ _ ["value"] (spAsk isNam) := ⟨ok_isname F2 T D1, m2, k2, b2⟩
  have D3 : Df P w K mg base CX0 1 "is_list" _ _ ["value"] (spIsListD K) := ⟨ok_islist F3 T, m3, k3, b3⟩
  have D9 : Df P w K mg base CX0 1 "row_tree" _ _ ["items"] spRow := ⟨ok_row F9 T, m9, k9, b9⟩
  have D8 : Df P w K mg base CX0 2 "group_tree" _ _ ["rows"] spGroup := ⟨ok_group F8 T D9, m8, k8, b8⟩
  have D5 : Df P w K mg base CX0 2 "may_follow" _ _ ["mark", "before", "depth"] spMay := ⟨ok_may F5 T TP D0, m5, k5, b5⟩
  have D6 : Df P w K mg base CX0 3 "read_mark" _ _ ["groups", "mark"] spRead := ⟨ok_read F6 TP D8, m6, k6, b6⟩
  have D7 : Df P w K mg base (L2.CX P w) 2 "name_end" _ _ ["text", "start"] spEnd := ⟨ok_end F7 T D0, m7, k7, b7⟩
  have D4 : Df P w K mg base (L2.CX P w) 4 "parse_expression" _ _ ["text"] spParseT := ⟨parse_tree (P := P) (w := w) (ok_parse F4 T D7 D5 D6 D8), m4, k4, b4⟩
  have CP := (CalE.def F4 (ok_parseN (P := P) (w := w) F4 T lowY D7 D5 D6 D8) b4).mono (k' := 134) (by decide)
  have D10 : Df P w K mg base CX0 1 "needs_parentheses" _ _ ["kind", "place"] spNeedsS := ⟨ok_needs F10 T, m10, k10, b10⟩
  have D11 : Df P w K mg base CX0 1 "place_inside" _ _ ["kind"] spPlaceS := ⟨ok_place F11 T, m11, k11, b11⟩
  have A := all_tb (P := P) F13 F14 T D0 D2 D10 D11 D3 (fun sp k g => ⟨g, m13, k13, b13⟩) (fun sp k g => ⟨g, m14, k14, b14⟩)
  have D13 : Df P w K mg base CX0 130 "is_tree_at" _ _ ["value", "place", "room"] (spTB K 128) := ⟨(A 128).1, m13, k13, b13⟩
  have D12 : Df P w K mg base CX0 131 "is_tree" _ _ ["value"] (spIsTreeB K) := ⟨ok_istree F12 T D13, m12, k12, b12⟩
  have D15 : Df P w K mg base (L2.CX P w) 132 "require_tree" _ _ ["value"] (spReqB K CE) := ⟨ok_require F15 lowE D12, m15, k15, b15⟩
  have D17 : Df P w K mg base CX0 1 "written_at" _ _ ["tree", "place"] spZ := ⟨(no_fn fun _ _ _ _ z => z), m17, k17, b17⟩
  have D18 : Df P w K mg base CX0 1 "words_of" _ _ ["tree", "kind"] spWords := ⟨ok_words F18 T, m18, k18, b18⟩
  have D22 : Df P w K mg base CX0 132 "is_tree_table" _ _ ["value"] spTab := ⟨ok_tab F22 T (zN z_dict) D2 D12, m22, k22, b22⟩
  have D23 : Df P w K mg base CX0 42 "replaced" _ _ ["tree", "table"] (spRep 42) := ⟨all_rep F23 T m23 k23 b23 42, m23, k23, b23⟩
  have D16 : Df P w K mg base (L2.CX P w) 133 "expression_text" _ _ ["tree"] (spNoB K CE) := ⟨ok_textN (P := P) (w := w) (sp2 := spZ) F16 T D15 D17, m16, k16, b16⟩
  have D19 : Df P w K mg base (L2.CX P w) 133 "letters_of" _ _ ["tree"] (spNoB K CE) := ⟨ok_lettersN (P := P) (w := w) F19 T (zN z_set) (zN z_sorted) D15 D18, m19, k19, b19⟩
  have D20 : Df P w K mg base (L2.CX P w) 133 "names_of" _ _ ["tree"] (spNoB K CE) := ⟨ok_namesN (P := P) (w := w) F20 T (zN z_set) (zN z_sorted) D15 D18, m20, k20, b20⟩
  have D21 : Df P w K mg base (L2.CX P w) 133 "with_names" _ _ ["tree", "table"] (spNoW K CE) := ⟨ok_withN (P := P) (w := w) F21 T D15 D22 D18 D23, m21, k21, b21⟩
  have C16 := (CalE.def F16 D16.G b16).mono (k' := 134) (by decide)
  have C19 := (CalE.def F19 D19.G b19).mono (k' := 134) (by decide)
  have C20 := (CalE.def F20 D20.G b20).mono (k' := 134) (by decide)
  have D31 : Df P w K mg base CX0 135 "_law_raised" _ _ ["_law_ask", "_law_value"] (spRaised P w K mg base CE CY) := ⟨ok_raised F31 T lowE lowY U, m31, k31, b31⟩
  have D32 : Df P w K mg base CX0 136 "_law_refused" _ _ ["_law_value"] (spRefused K pTS) := ⟨ok_refused F32 T TB (zN z_dict) tES C16 C19 C20 D21 D12 D16 D19 D20 D31, m32, k32, b32⟩
  have H0 : DfH P w K mg base CX0 1 "is_letter" _ _ ["value"] spZ := ⟨(no_fnH fun _ _ _ _ z => z), m0, k0, b0⟩
  have H2 : DfH P w K mg base CX0 2 "is_name" _ _ ["value"] spZ := ⟨(no_fnH fun _ _ _ _ z => z), m2, k2, b2⟩
  have H10 : DfH P w K mg base CX0 1 "needs_parentheses" _ _ ["kind", "place"] spNeedsS := ⟨ok_needsH F10 T, m10, k10, b10⟩
  have H11 : DfH P w K mg base CX0 1 "place_inside" _ _ ["kind"] spPlaceS := ⟨ok_placeH F11 T, m11, k11, b11⟩
  have AH := all_tbH (P := P) F13 T H0 H2 H10 H11 (fun sp k g => ⟨g, m13, k13, b13⟩) (fun k => ⟨no_fnH fun _ _ _ _ z => z, m14, k14, b14⟩)
  have H13 : DfH P w K mg base CX0 130 "is_tree_at" _ _ ["value", "place", "room"] (spTC K 128) := ⟨AH 128, m13, k13, b13⟩
  have H12 : DfH P w K mg base CX0 131 "is_tree" _ _ ["value"] (spIsTreeC K) := ⟨ok_istreeH F12 T H13, m12, k12, b12⟩
  have H15 : DfH P w K mg base (L2.CX P w) 132 "require_tree" _ _ ["value"] (spNoBc K CE) := ⟨ok_requireH F15 lowE H12, m15, k15, b15⟩
  have H16 : DfH P w K mg base (L2.CX P w) 133 "expression_text" _ _ ["tree"] (spNoBc K CE) := ⟨ok_expression_textH (P := P) (w := w) F16 H15, m16, k16, b16⟩
  have H19 : DfH P w K mg base (L2.CX P w) 133 "letters_of" _ _ ["tree"] (spNoBc K CE) := ⟨ok_letters_ofH (P := P) (w := w) F19 H15, m19, k19, b19⟩
  have H20 : DfH P w K mg base (L2.CX P w) 133 "names_of" _ _ ["tree"] (spNoBc K CE) := ⟨ok_names_ofH (P := P) (w := w) F20 H15, m20, k20, b20⟩
  have H21 : DfH P w K mg base (L2.CX P w) 133 "with_names" _ _ ["tree", "table"] (spNoWc K CE) := ⟨ok_withH (P := P) (w := w) F21 H15, m21, k21, b21⟩
  have CH16 := (CalEH.def F16 H16.G b16).mono (k' := 134) (by decide)
  have CH19 := (CalEH.def F19 H19.G b19).mono (k' := 134) (by decide)
  have CH20 := (CalEH.def F20 H20.G b20).mono (k' := 134) (by decide)
  have H31 : DfH P w K mg base CX0 135 "_law_raised" _ _ ["_law_ask", "_law_value"] (spRaisedH P w K mg base CE) := ⟨ok_raisedH F31 T lowE lowY U, m31, k31, b31⟩
  have H32 : DfH P w K mg base CX0 136 "_law_refused" _ _ ["_law_value"] (spRefusedH K pTS) := ⟨ok_refusedH F32 T TB (zN z_dict) tES CH16 CH19 CH20 H21 H12 H16 H19 H20 H31, m32, k32, b32⟩
  have N15 : Df P w K mg base (L2N.CX P w) 132 "require_tree" _ _ ["value"] (spReqB K CE) := ⟨ok_requireN F15 lowE D12, m15, k15, b15⟩
  have N21 : Df P w K mg base (L2N.CX P w) 133 "with_names" _ _ ["tree", "table"] (spDeepW CE) := ⟨ok_withDN (P := P) (w := w) F21 T N15 D22 D18 D23, m21, k21, b21⟩
  have D24 : Df P w K mg base CX0 1 "_law_cell" _ _ ["_law_script", "_law_k"] (spScr K) := ⟨ok_cell F24 T, m24, k24, b24⟩
  have D25 : Df P w K mg base CX0 1 "_law_box" _ _ ["_law_cell_here"] spBoxC := ⟨ok_box F25 (zN z_max), m25, k25, b25⟩
  have D26 : Df P w K mg base CX0 1 "_law_take" _ _ ["_law_box_here", "_law_many_here"] spTakeC := ⟨ok_take F26, m26, k26, b26⟩
  have D27 : Df P w K mg base CX0 2 "_law_tree" _ _ ["_law_box_here", "_law_letters", "_law_names"] spTree := ⟨ok_tree F27 T (zN z_range) D26, m27, k27, b27⟩
  have D28 : Df P w K mg base CX0 40 "_law_put" _ _ ["_law_tree_here", "_law_left", "_law_value"] (spPut K 21) := ⟨(all_put F28 T m28 k28 b28 21).mono (by decide), m28, k28, b28⟩
  have D29 : Df P w K mg base CX0 40 "_law_many" _ _ ["_law_tree_here"] (spMany 21) := ⟨(all_many F29 T (zN z_sum) m29 k29 b29 21).mono (by decide), m29, k29, b29⟩
  have D30 : Df P w K mg base CX0 2 "_law_no_tree" _ _ ["_law_box_here"] (spNo K) := ⟨ok_no F30 D26, m30, k30, b30⟩
  refine FnG.imp (ok_law F33 T lowE (zN z_range) (zN z_max) (zN z_min) CP D24 D25 D26 D27 D29 D28 D30 D32 H32 D4 N21 D31) fun vs H Q E h => ?_
  obtain ⟨a, ns, rfl, h1, h2, h3, h4⟩ := h
  exact ⟨a, ns, rfl, h1, h2, LamX.TabS.nil (h3 (cTS, pTS) (List.mem_singleton.mpr rfl)), h4⟩
theorem walk {l : PySem.W.OpenLaw} {q : Program} {loose : List Str} {XP : (Str → Option Value) → Heap → Prop} {YP : World → Heap → Prop} {d : DefRec} {K : Params → PySem.W.Frag} (hn : l.most = some 63) (hdf : d.params.defaults = []) (himp : importsNone q = true)
    (hY : ∀ (w : World) (h : Heap), YP w h → (K w.params).In h)
    (F : ∀ (w : World) (mg : Str → Option Value) (fa : Addr) (h : Heap), (K w.params).In h → h.Ns mainGlobals mg → mg d.name = some (.ref fa) → ∃ xs : List (Str × Addr × Addr), TabsIn (K w.params) q xs ∧
      ∃ fd : FuncData, (∀ (s : Shared) (u : Value), BindsTo s fd ⟨[u], []⟩ [("_law_script", u)]) ∧ ∀ base : Heap, (K w.params).In base → base.Ns mainGlobals mg → SysIn base → (∀ e ∈ xs, LamX.TabB base mg e.2.1 e.2.2) → FnG l.prog w (K w.params) mg base CX0 137 fa fd ["_law_script"] (spTop (K w.params) (xs.map (·.2)))) :
    PySem.W.WalkO q loose XP YP l.row.toRowW d [] (fun f vs => PySem.call f vs) :=
  Gd.walkT (n := 63) (k := 137) (x := "_law_script") (CX := fun _ => CX0) (sp := fun w cs => spTop (K w.params) cs) hn (by decide) hdf ⟨rfl, by decide, by decide⟩ himp hY F
    (fun _ cs H a ns hl hH hS => ⟨a, ns, rfl, hS, hl, hH, fun _ => rfl⟩) fun _ _ _ _ _ z => z
end KT
open PySem PySem.W PyProof.Rows
set_option maxRecDepth 100000 in
set_option maxHeartbeats 0 in
theorem PySem.Challenge.cw_formatrepair_k07_values_that_are_no_tree_holds : PySem.Challenge.rw_formatrepair_k07_values_that_are_no_tree.Holds := by
  w_on; o_law; k_head; (case hw => w_witness2)
  k_fill
  refine KT.walk (l := PySem.Challenge.rw_formatrepair_k07_values_that_are_no_tree) rfl rfl rfl (fun w h Y => PySem.W.km_in_of Y) ?F
  case F =>
    intro w mg fa h KX G hmg
    refine' KT.all_mk KX G hmg ?a0 ?l0 ?c0 ?k0 ?a1 ?l1 ?c1 ?k1 ?a2 ?l2 ?c2 ?k2 ?a3 ?l3 ?c3 ?k3 ?a4 ?l4 ?c4 ?k4 ?a5 ?l5 ?c5 ?k5 ?a6 ?l6 ?c6 ?k6 ?a7 ?l7 ?c7 ?k7 ?a8 ?l8 ?c8 ?k8 ?a9 ?l9 ?c9 ?k9 ?a10 ?l10 ?c10 ?k10 ?a11 ?l11 ?c11 ?k11 ?a12 ?l12 ?c12 ?k12 ?a13 ?l13 ?c13 ?k13 ?a14 ?l14 ?c14 ?k14 ?a15 ?l15 ?c15 ?k15 ?a16 ?l16 ?c16 ?k16 ?a17 ?l17 ?c17 ?k17 ?a18 ?l18 ?c18 ?k18 ?a19 ?l19 ?c19 ?k19 ?a20 ?l20 ?c20 ?k20 ?a21 ?l21 ?c21 ?k21 ?a22 ?l22 ?c22 ?k22 ?a23 ?l23 ?c23 ?k23 ?a24 ?l24 ?c24 ?k24 ?a25 ?l25 ?c25 ?k25 ?a26 ?l26 ?c26 ?k26 ?a27 ?l27 ?c27 ?k27 ?a28 ?l28 ?c28 ?k28 ?a29 ?l29 ?c29 ?k29 ?a30 ?l30 ?c30 ?k30 ?a31 ?l31 ?c31 ?k31 ?a32 ?l32 ?c32 ?k32 ?a33 ?l33 ?c33 ?k33 ?gL ?gM ?gW ?gR ?gI ?gO ?gS ?lS ?kS ?wS ?sS0 ?sS1 ?sS2 ?oS0 ?oS1 ?oS2 ?oS3 ?oS4 ?oS5 ?oS6 ?oS7 ?oS8 ?gK ?lK ?kK ?wK ?hK0 ?sK0 ?hK1 ?sK1 ?hK2 ?sK2 ?gT ?lT ?aCE ?xLE ?vbE ?saE ?gaE ?ggE ?nbE ?iCE ?tfE ?lfE ?cfE ?kCE ?eCE ?tCE ?hCE ?jCE ?sCE ?aCY ?xLY ?vbY ?saY ?gaY ?ggY ?nbY ?iCY ?tfY ?lfY ?cfY ?kCY ?eCY ?tCY ?hCY ?jCY ?sCY ?xn ?xt ?xaE ?xmE ?xiE ?xsE ?xaY ?xmY ?xiY ?xsY ?uEY ?uYE ?nEY ?z_isinstance ?z_str ?z_list ?z_tuple ?z_len ?z_all ?z_set ?z_sorted ?z_dict ?z_range ?z_max ?z_min ?z_repr ?z_sum ?tES ?tLS ?tVS ?tNS ?tRS
    (case a0 => k_is)
    (case l0 => k_is)
    (case c0 => k_is)
    (case k0 => k_is)
    (case a1 => k_is)
    (case l1 => k_is)
    (case c1 => k_is)
    (case k1 => k_is)
    (case a2 => k_is)
    (case l2 => k_is)
    (case c2 => k_is)
    (case k2 => k_is)
    (case a3 => k_is)
    (case l3 => k_is)
    (case c3 => k_is)
    (case k3 => k_is)
    (case a4 => k_is)
    (case l4 => k_is)
    (case c4 => k_is)
    (case k4 => k_is)
    (case a5 => k_is)
    (case l5 => k_is)
    (case c5 => k_is)
    (case k5 => k_is)
    (case a6 => k_is)
    (case l6 => k_is)
    (case c6 => k_is)
    (case k6 => k_is)
    (case a7 => k_is)
    (case l7 => k_is)
    (case c7 => k_is)
    (case k7 => k_is)
    (case a8 => k_is)
    (case l8 => k_is)
    (case c8 => k_is)
    (case k8 => k_is)
    (case a9 => k_is)
    (case l9 => k_is)
    (case c9 => k_is)
    (case k9 => k_is)
    (case a10 => k_is)
    (case l10 => k_is)
    (case c10 => k_is)
    (case k10 => k_is)
    (case a11 => k_is)
    (case l11 => k_is)
    (case c11 => k_is)
    (case k11 => k_is)
    (case a12 => k_is)
    (case l12 => k_is)
    (case c12 => k_is)
    (case k12 => k_is)
    (case a13 => k_is)
    (case l13 => k_is)
    (case c13 => k_is)
    (case k13 => k_is)
    (case a14 => k_is)
    (case l14 => k_is)
    (case c14 => k_is)
    (case k14 => k_is)
    (case a15 => k_is)
    (case l15 => k_is)
    (case c15 => k_is)
    (case k15 => k_is)
    (case a16 => k_is)
    (case l16 => k_is)
    (case c16 => k_is)
    (case k16 => k_is)
    (case a17 => k_is)
    (case l17 => k_is)
    (case c17 => k_is)
    (case k17 => k_is)
    (case a18 => k_is)
    (case l18 => k_is)
    (case c18 => k_is)
    (case k18 => k_is)
    (case a19 => k_is)
    (case l19 => k_is)
    (case c19 => k_is)
    (case k19 => k_is)
    (case a20 => k_is)
    (case l20 => k_is)
    (case c20 => k_is)
    (case k20 => k_is)
    (case a21 => k_is)
    (case l21 => k_is)
    (case c21 => k_is)
    (case k21 => k_is)
    (case a22 => k_is)
    (case l22 => k_is)
    (case c22 => k_is)
    (case k22 => k_is)
    (case a23 => k_is)
    (case l23 => k_is)
    (case c23 => k_is)
    (case k23 => k_is)
    (case a24 => k_is)
    (case l24 => k_is)
    (case c24 => k_is)
    (case k24 => k_is)
    (case a25 => k_is)
    (case l25 => k_is)
    (case c25 => k_is)
    (case k25 => k_is)
    (case a26 => k_is)
    (case l26 => k_is)
    (case c26 => k_is)
    (case k26 => k_is)
    (case a27 => k_is)
    (case l27 => k_is)
    (case c27 => k_is)
    (case k27 => k_is)
    (case a28 => k_is)
    (case l28 => k_is)
    (case c28 => k_is)
    (case k28 => k_is)
    (case a29 => k_is)
    (case l29 => k_is)
    (case c29 => k_is)
    (case k29 => k_is)
    (case a30 => k_is)
    (case l30 => k_is)
    (case c30 => k_is)
    (case k30 => k_is)
    (case a31 => k_is)
    (case l31 => k_is)
    (case c31 => k_is)
    (case k31 => k_is)
    (case a32 => k_is)
    (case l32 => k_is)
    (case c32 => k_is)
    (case k32 => k_is)
    (case a33 => k_is)
    (case l33 => k_is)
    (case c33 => k_is)
    (case k33 => k_is)
    (case gL => k_is)
    (case gM => k_is)
    (case gW => k_is)
    (case gR => k_is)
    (case gI => k_is)
    (case gO => k_is)
    (case gS => k_is)
    (case lS => k_is)
    (case kS => k_keys)
    (case wS => first | rfl | decide +kernel | k_is)
    (case sS0 => k_is)
    (case sS1 => k_is)
    (case sS2 => k_is)
    (case oS0 => k_is)
    (case oS1 => k_is)
    (case oS2 => k_is)
    (case oS3 => k_is)
    (case oS4 => k_is)
    (case oS5 => k_is)
    (case oS6 => k_is)
    (case oS7 => k_is)
    (case oS8 => k_is)
    (case gK => k_is)
    (case lK => k_is)
    (case kK => k_keys)
    (case wK => first | rfl | decide +kernel | k_is)
    (case hK0 => rfl)
    (case sK0 => k_is)
    (case hK1 => rfl)
    (case sK1 => k_is)
    (case hK2 => rfl)
    (case sK2 => k_is)
    (case gT => k_is)
    (case lT => k_is)
    (case aCE => k_is)
    (case xLE => k_is)
    (case vbE => decide +kernel)
    (case saE => k_is)
    (case gaE => k_is)
    (case ggE => k_is)
    (case nbE => k_is)
    (case iCE => k_is)
    (case tfE => k_is)
    (case lfE => k_is)
    (case cfE => k_is)
    (case kCE => k_is)
    (case eCE => k_is)
    (case tCE => k_is)
    (case hCE => k_is)
    (case jCE => k_is)
    (case sCE => first | rfl | k_is)
    (case aCY => k_is)
    (case xLY => k_is)
    (case vbY => decide +kernel)
    (case saY => k_is)
    (case gaY => k_is)
    (case ggY => k_is)
    (case nbY => k_is)
    (case iCY => k_is)
    (case tfY => k_is)
    (case lfY => k_is)
    (case cfY => k_is)
    (case kCY => k_is)
    (case eCY => k_is)
    (case tCY => k_is)
    (case hCY => k_is)
    (case jCY => k_is)
    (case sCY => first | rfl | k_is)
    (case xn => k_is)
    (case xt => k_is)
    (case xaE => k_is)
    (case xmE => k_is)
    (case xiE => k_is)
    (case xsE => k_is)
    (case xaY => k_is)
    (case xmY => k_is)
    (case xiY => k_is)
    (case xsY => k_is)
    (case uEY => k_is)
    (case uYE => k_is)
    (case nEY => first | rfl | decide +kernel | k_is)
    (case z_isinstance => k_is)
    (case z_str => k_is)
    (case z_list => k_is)
    (case z_tuple => k_is)
    (case z_len => k_is)
    (case z_all => k_is)
    (case z_set => k_is)
    (case z_sorted => k_is)
    (case z_dict => k_is)
    (case z_range => k_is)
    (case z_max => k_is)
    (case z_min => k_is)
    (case z_repr => k_is)
    (case z_sum => k_is)
    (case tES => rfl)
    (case tLS => k_is)
    (case tVS => rfl)
    (case tNS => first | k_is | rfl | decide +kernel)
    (case tRS => rfl)
