import PyProof.Rows.All
import Wide.All
import OpenK.AllK
import Wide.FinOn
import PyProof.ReprRoads
import HandS.Base
import HandS.Call
import HandS.List
import HandS.Dict
import HandS.Ends
import HandS.Words
import HandS.Exc
import HandS.ExcOwn
import HandS.TryOnly
import HandS.TryMany
import HandS.Defaults
import PyProof.StrLawsRepr
import HandS.Wide
import HandS.Comp
import HandS.Iter
import HandS.Text
import HandS.More
import HandS.Style
import HandS.StrMore
import HandS.IsInst
import HandS.Replace
import HandS.RaiseMore
import HandS.WordsList
import HandS.WordsDict
import HandS.WordsExc
import HandS.Walk
import HandS.Codes
import PyProof.Rows.StrFin3
import HandS.ExcValue
import KE.KExcIs
import HandS.FStr
import HandS.SetTxt0
import HandS.Set
import HandS.Strs
import HandS.ReplaceLit
import HandS.ReplaceList
import PySem.Challenge.RW_formatrepair_k09_arguments_by_name
set_option Elab.async false
set_option linter.all false
set_option maxRecDepth 100000
set_option maxHeartbeats 4000000
namespace Gd
open PySem PySem.Spec PyProof.Rows L2
/-- no repr is under way -/
def Clean (A : Around) : Prop := A.guards = some []
/-- a contract that holds where no repr is under way -/
structure FnG (P : Program) (w : World) (K : PySem.W.Frag) (mg : Str → Option Value) (base : Heap) (CX : CXT) (k : Nat) (f : Addr) (fd : FuncData) (ps : List Str) (sp : Sp) : Prop where
  len : ∀ vs H Q E, sp vs H Q E → vs.length = ps.length
  run : ∀ (A : Around) (outer : List Env) (s : Shared) (H : Hp) (args : Args) (us : List Value) (vs : List V) (Q : VK) (E : XK), Clean A → Room k A →
    Env0 P w K mg base A outer s H → BindsTo s fd args (ps.zip us) → Vals vs us → sp vs H Q E →
    codeAny (model P w) A (.call (.ref f) args) (CR CX outer P w H s Q E) s
section
variable {P : Program} {w : World} {K : PySem.W.Frag} {mg : Str → Option Value} {base : Heap} {CX : CXT} {k j : Nat} {f : Addr} {fd : FuncData} {ps : List Str} {sp : Sp}
theorem FnG.of (F : FnOk P w K mg base CX k f fd ps sp) : FnG P w K mg base CX k f fd ps sp :=
  ⟨F.len, fun A outer s H args us vs Q E _ hr e0 hb r h => F.run A outer s H args us vs Q E hr e0 hb r h⟩
theorem FnG.mono (F : FnG P w K mg base CX j f fd ps sp) (h : j ≤ k) : FnG P w K mg base CX k f fd ps sp :=
  ⟨F.len, fun A outer s H args us vs Q E hc hr e0 hb r q => F.run A outer s H args us vs Q E hc (hr.mono h) e0 hb r q⟩
/-- a def of the text keeps its contract: its body as rules, and their reading -/
theorem okG {CX : CXT} {x qual : Str} {st : Stmt} {N : List Str} (F : Fun K x qual st f fd) (S : FnScope N ps (defScope st)) (len : ∀ vs H Q E, sp vs H Q E → vs.length = ps.length)
    (hbody : ∀ (cdv : Value) (A : Around) (outer : List Env) (s : Shared) (H : Hp) (vs : List V) (Q : VK) (E : XK), Clean A → Room k (A.deeper (envOfC qual (defScope st) s.heap.objs.size f cdv)) → sp vs H Q E →
      ∃ t, PSs (cxOf CX P w K mg base N qual (defScope st) f cdv A outer s H E) (defBody st) t ∧ t { nx := fun _ H' => Q .non H', rt := Q } (start N vs) H) : FnG P w K mg base CX (k + 1) f fd ps sp := by
  obtain ⟨oc, od, kV, doc, pm, an, cdv, ct, osl, efd, lk, hcd⟩ := F.ex
  subst efd
  refine ⟨len, fun A outer s H args us vs Q E hc hr e0 hb r hsp => ?_⟩
  have bk : ∀ b o, base.get? b = some o → s.heap.get? b = some o := fun b o e => (e0.bs b o e).1
  have KX : K.In s.heap := e0.mod.kin.keeps bk
  have hkind : ∀ y ∈ ps.zip us, (defScope st).names.lookup y.1 = some .local ∨ ((defScope st).names.lookup y.1 = some .cell ∧ ((cellsFrom (s.heap.objs.size + 1) (defScope st).names []).lookup y.1).isSome = true) := by
    rintro ⟨n, v⟩ hy
    exact (S.par n (List.of_mem_zip hy).1).imp id fun q => ⟨q, PySem.W.cellsFrom_some _ _ _ (.inl q)⟩
  refine codeAny_call_function hr.depth (KX _ _ lk) rfl S.co S.gen rfl (PySem.W.codeRec_of KX hcd) (hb _ _ _ _ (wpAny_newFunctionEnv_cells S.kind hkind ?_))
  intro env he s1 x
  subst he
  refine ⟨(e0.mod.nolimit.keeps bk).keeps x.toInCall.keep, codeAny_func ?_⟩
  obtain ⟨t, ht, hq⟩ := hbody cdv A outer s H vs Q E hc (hr.deeper _) hsp
  have I := inv_start (CX := CX) (E := E) S hr.hd e0 (len _ _ _ _ hsp) r x
  refine wpAny_mono (ht.run [] s1 (start N vs) H _ I hq) (fun fl s' hs => ?_) fun _ _ z => z
  match fl, hs with
  | .ret u, ⟨v, σ', H', J, rv, q⟩ => exact ⟨v, H', J.os, J.bare, J.base, J.hok, rv, q⟩
  | .next, ⟨σ', H', J, q⟩ => exact ⟨V.non, H', J.os, J.bare, J.base, J.hok, rfl, q⟩
  | .brk, ⟨_, _, _, q⟩ => exact q.elim
  | .cont, ⟨_, _, _, q⟩ => exact q.elim
end
section
variable {X : Cx} {CX : CXT} {k : Nat} {f : Addr} {fd : FuncData} {ps ks : List Str} {sp : Sp} {dvs : List V} {ds : List Value} {E : XK} {x : Str} {p pos : Pos} {e : Expr} {es : List Expr} {t tk : TA} {kws : List Keyword}
theorem runG {pins : List (Addr × Obj)} {σ : L2.St} {H : Hp} {s : Shared} {Q : VK} {us : List Value} {vs : List V} (F : FnG X.prog X.w X.K X.mg X.base CX k f fd ps sp) (hc : Clean X.A) (hr : Room k X.A)
    (hb : Binds X.K fd ps ds) (hd : Vals dvs ds) (hx : Passes CX X E) (I : Inv X pins σ H s) (r : Vals vs us) (h : sp (vs ++ dvs) H Q E) :
    wpAny (model X.prog X.w) X.A (call (.ref f) us) (EP X pins σ Q) X.xe s := by
  have r2 := r.append hd
  have hl : (us ++ ds).length = ps.length := r2.length ▸ F.len _ _ _ _ h
  refine wpAny_call (codeAny_mono (F.run X.A X.stack s H ⟨us, []⟩ (us ++ ds) (vs ++ dvs) Q E hc hr I.env0 (hb s us I.kIn hl) r2 h) ?_)
  intro r s' hq
  match r, hq with
  | .error e, hq => exact hx pins σ H s e s' I hq
  | .ok (.ret u), hq => exact I.after hq
  | .ok .next, hq => exact False.elim hq
  | .ok .brk, hq => exact False.elim hq
  | .ok .cont, hq => exact False.elim hq
theorem pe_callG (F : FnG X.prog X.w X.K X.mg X.base CX k f fd ps sp) (hc : Clean X.A) (hr : Room k X.A) (hg : Gl X x) (hm : X.mg x = some (.ref f)) (hk : PySem.W.keepIn X.K (.ref f) = true)
    (hb : Binds X.K fd ps ds) (hd : Vals dvs ds) (hx : Passes CX X E) (ha : PA X (e :: es) t) (hdb : (x == ("__debug__" : Str)) = false := by decide)
    (he : starEach (e :: es) X.env = (false, eval e X.env) :: starEach es X.env := by rfl) (hpl : (backTo pos (starEach es X.env)).any (·.1) = false := by rfl) :
    PE X (.Call (.Name x p) (e :: es) [] pos) (tCall sp dvs E t) := by
  refine ⟨fun pins s σ H Q I h => wpAny_Call_Name_kw (ld_glob I hg hm ?_ hdb)⟩
  exact PySem.W.callWith_K (h₀ := X.base) I.ok.mod.kin hk (thn (ha.run pos pins s σ H _ I h) fun us s1 ⟨vs, H1, I1, r, q⟩ => ⟨I1.kIn, runG F hc hr hb hd hx I1 r q⟩) he hpl
end

/-! the end of a law -/
section
variable {P : Program} {w : World} {K : PySem.W.Frag} {mg mb : Str → Option Value} {CX : CXT} {k : Nat} {fa a : Addr} {fd : FuncData} {x : Str} {sp : Sp} {s : Shared} {vs : List Value} {ns : List Int}
/-- the table of modules stands in the fixed part -/
abbrev SysIn (base : Heap) : Prop := ∃ o, base.get? sysModules = some o
abbrev scriptObj (vs : List Value) : Obj := { cls := .type "list", data := .seq vs.toArray }
abbrev Done (s : Shared) (r : Result) (s' : Shared) : Prop := r = .ok (.ret (.bool true)) ∧ OldK s.heap s'.heap ∧ s'.os = s.os ∧ AllBare s'.gens
/-- from a heap in which the script alone may be tracked -/
theorem law_core (KX : K.In s.heap) (hns : s.heap.Ns mainGlobals mg) (hb : s.heap.Ns builtinsNs mb) (hbb : ∀ x : Str, x ≠ "__name__" → mb x = bootBuiltins x) (hlim : s.heap.NoLimit) (hsy : ∃ mm, s.heap.Ns sysModules mm) (hg : s.gens = #[])
    (ha : s.heap.get? a = some (scriptObj vs)) (hr : Room k callerA)
    (F : ∀ base : Heap, K.In base → base.Ns mainGlobals mg → SysIn base → FnG P w K mg base CX k fa fd [x] sp) (hbind : ∀ (s : Shared) (u : Value), BindsTo s fd ⟨[u], []⟩ [(x, u)])
    (H : Hp) (hO : Only H) (hok : HOk P w H s.heap) (hA : ∀ b, H b ≠ none → b = a) (hK : H a ≠ none → K.lookup a = none)
    (hsp : sp [.ref a] H (fun v _ => v = .bl true) fun _ _ _ => False) (hCX : ∀ e s', CX [] H s (fun _ _ _ => False) e s' → False) :
    codeAny (model P w) callerA (.call (.ref fa) ⟨[.ref a], []⟩) (Done s) s := by
  have notA : ∀ {b : Addr}, b ≠ a → H b = none := fun {b} hb => Classical.byContradiction fun q => hb (hA b q)
  have nsA : ∀ {b : Addr} {m : Str → Option Value}, s.heap.Ns b m → (hidT s.heap H).Ns b m := by
    rintro b m ⟨o, es, ep, e, d, r⟩
    have hb : b ≠ a := by
      rintro rfl
      rw [ha] at e
      cases e
      exact nomatch (d : Data.seq vs.toArray _ = Data.dict es ep)
    exact ⟨o, es, ep, hidT_get e (notA hb), d, r⟩
  have inB : K.In (hidT s.heap H) := fun b o e => hidT_get (KX b o e) (Classical.byContradiction fun q => by
    have hb := hA b q
    subst hb
    rw [hK q] at e
    exact nomatch e)
  have md : Mod K mg (hidT s.heap H) := ⟨inB, nsA hns, ⟨mb, nsA hb, hbb⟩, hlim.imp fun _ h => ⟨nsA h.1, h.2⟩⟩
  have e0 : Env0 P w K mg (hidT s.heap H) callerA [] s H :=
    ⟨rfl, md, fun b o e => of_hidT e, Nat.le_of_eq (hidT_size _ _), trivial, fun _ hb => absurd hb List.not_mem_nil, hok, .of_eq hg⟩
  have R := (F _ inB (nsA hns) (let ⟨_, q⟩ := hsy; let ⟨o, _, _, e, _⟩ := nsA q; ⟨o, e⟩)).run callerA [] s H ⟨[.ref a], []⟩ [.ref a] [.ref a] _ _ rfl hr e0 (hbind s (.ref a)) (.cons rfl .nil) hsp
  refine codeAny_mono R fun r s' h => ?_
  match r, h with
  | .error e, h => exact (hCX e s' h).elim
  | .ok .next, h => exact False.elim h
  | .ok .brk, h => exact False.elim h
  | .ok .cont, h => exact False.elim h
  | .ok (.ret u), ⟨v, H', os, bare, un, hok', r', q⟩ =>
    have q' : v = .bl true := q
    subst q'
    cases (show u = Value.bool true from r')
    refine ⟨rfl, OldK.of_keep fun b o e => ?_, os, bare⟩
    rcases hO b with z | ⟨ob, xs, z⟩
    · exact un.keep b o e z List.not_mem_nil (by simp)
    · have e1 := (hok b _ z).1
      have e2 := (hok' b _ (un.frzs b ob _ z)).1
      rw [e] at e1
      cases e1
      exact e2
theorem law_callG (KX : K.In s.heap) (hns : s.heap.Ns mainGlobals mg) (hb : s.heap.Ns builtinsNs mb) (hbb : ∀ x : Str, x ≠ "__name__" → mb x = bootBuiltins x) (hlim : s.heap.NoLimit) (hsy : ∃ mm, s.heap.Ns sysModules mm) (hg : s.gens = #[])
    (ha : s.heap.get? a = some (scriptObj vs)) (hi : IntsAre vs ns) (hl : ns.length ≤ sizeLine) (hr : Room k callerA)
    (F : ∀ base : Heap, K.In base → base.Ns mainGlobals mg → SysIn base → FnG P w K mg base CX k fa fd [x] sp) (hbind : ∀ (s : Shared) (u : Value), BindsTo s fd ⟨[u], []⟩ [(x, u)])
    (hsp : ∀ H : Hp, Only H → SqL K H a (ns.map V.int) → sp [.ref a] H (fun v _ => v = .bl true) fun _ _ _ => False) (hCX : ∀ H e s', CX [] H s (fun _ _ _ => False) e s' → False) :
    codeAny (model P w) callerA (.call (.ref fa) ⟨[.ref a], []⟩) (Done s) s := by
  have rv := vals_ints hi
  have lenV := hi.length
  cases hk : K.lookup a with
  | some o =>
    have e := KX a o hk
    rw [ha] at e
    cases e
    refine law_core KX hns hb hbb hlim hsy hg ha hr F hbind (fun _ => none) (fun _ => .inl rfl) (fun b u z => nomatch (z : (none : Option HO) = some u)) (fun _ z => absurd rfl z) (fun z => absurd rfl z) ?_ (hCX _)
    exact hsp _ (fun _ => .inl rfl) (.inr ⟨_, vs.toArray, _, hk, rfl, rfl, rfl, by rw [List.size_toArray, lenV]; exact hl, by simpa using rv⟩)
  | none =>
    have one : ∀ {b : Addr} {u : HO}, (if b = a then some (HO.frz (scriptObj vs) (.lst (ns.map V.int))) else none) = some u → b = a ∧ u = .frz (scriptObj vs) (.lst (ns.map V.int)) := by
      intro b u z
      by_cases hb : b = a
      · rw [if_pos hb] at z
        exact ⟨hb, (Option.some.inj z).symm⟩
      · rw [if_neg hb] at z
        exact nomatch z
    have only : Only fun b => if b = a then some (HO.frz (scriptObj vs) (.lst (ns.map V.int))) else none := fun b => by
      by_cases hb : b = a
      · exact .inr ⟨_, _, if_pos hb⟩
      · exact .inl (if_neg hb)
    refine law_core KX hns hb hbb hlim hsy hg ha hr F hbind _ only (fun b u z => ?_) (fun b z => ?_) (fun _ => hk) (hsp _ only (.inl (.inr ⟨scriptObj vs, if_pos rfl⟩))) (hCX _)
    · obtain ⟨rfl, rfl⟩ := one z
      exact ⟨ha, by rw [List.length_map]; exact hl, vs, _, rv, ha⟩
    · cases q : (if b = a then some (HO.frz (scriptObj vs) (.lst (ns.map V.int))) else none) with
      | none => exact absurd q z
      | some u => exact (one q).1
theorem walkG {l : PySem.W.OpenLaw} {n k : Nat} {q : Program} {loose : List Str} {XP : (Str → Option Value) → Heap → Prop} {YP : World → Heap → Prop} {d : DefRec} {K : Params → PySem.W.Frag} {CX : World → CXT} {sp : World → Sp} {x : Str}
    (hn : l.most = some n) (hn2 : n ≤ sizeLine) (hdf : d.params.defaults = []) (hr : Room k callerA) (himp : importsNone q = true) (hY : ∀ (w : World) (h : Heap), YP w h → (K w.params).In h)
    (F : ∀ (w : World) (mg : Str → Option Value) (fa : Addr) (h : Heap), (K w.params).In h → h.Ns mainGlobals mg → mg d.name = some (.ref fa) →
      ∃ fd : FuncData, (∀ (s : Shared) (u : Value), BindsTo s fd ⟨[u], []⟩ [(x, u)]) ∧
        ∀ base : Heap, (K w.params).In base → base.Ns mainGlobals mg → SysIn base → FnG l.prog w (K w.params) mg base (CX w) k fa fd [x] (sp w))
    (hsp : ∀ (w : World) (H : Hp) (a : Addr) (ns : List Int), ns.length ≤ n → Only H → SqL (K w.params) H a (ns.map V.int) → sp w [.ref a] H (fun v _ => v = .bl true) fun _ _ _ => False)
    (hCX : ∀ (w : World) (H : Hp) (s : Shared) (e : Value) (s' : Shared), CX w [] H s (fun _ _ _ => False) e s' → False) :
    PySem.W.WalkO q loose XP YP l.row.toRowW d [] (fun f vs => PySem.call f vs) := by
  refine Att.attach_call hn hdf fun w s₀ s₁ mg mb fa o pm cd doc a vs ns G Y ho hd hcd hmg hobj hints hlen hg => ?_
  obtain ⟨fd, hb, hF⟩ := F w mg fa _ (hY w _ Y) G.T.g hmg
  exact law_callG (hY w _ Y) G.T.g G.T.b G.T.builtins G.T.nolimit (let ⟨mm, q, _⟩ := (G.T.seer himp).mods; ⟨mm, q⟩) hg hobj hints (Nat.le_trans hlen hn2) hr hF hb (fun H hO hS => hsp w H a ns hlen hO hS) fun H e s' => hCX w H s₁ e s'
end
end Gd

namespace PySem
namespace EzValue
open PySem.W PySem.Calls PyProof.Rows PySem.HandSPX
/-! ### the text of __init__ -/
def iA (p1 p2 : Pos) : Arguments := { posonlyargs := [], args := [{ arg := "self", annotation := none, pos := p1 }, { arg := "value", annotation := none, pos := p2 }], vararg := none, kwonlyargs := [], kw_defaults := [], kwarg := none, defaults := [] }
def iB (q1 q2 q3 q4 : Pos) : List Stmt := [.Assign [.Attribute (.Name "self" q1) "value" q2] (.Name "value" q3) q4]
def iS : Scope := { kind := .function, names := [(PySem.Str.ofString "self", .local), (PySem.Str.ofString "value", .local)], isGenerator := false, isCoroutine := false, more := [] }
/-- what the written part says of Low, at C, and of its __init__, at fI -/
structure LowTxt (K : Frag) (mg : Str → Option Value) (nm : Str) (qn : String) (C fI : Addr) : Prop where
  gC : mg nm = some (.ref C)
  cls : ∃ nmC q N bs bm sn sub ab col dd k0 k1 k2 k3 k5, K.lookup C = some (excClassObj nmC q C N bs bm true sn sub ab col dd k0 k1 k2 k3 k5 "ValueError.__new__") ∧ refsVE bm = true
  sa : findIn K (.ref C) "__setattr__" = some (some (.builtin "object.__setattr__"))
  ga : findIn K (.ref C) "__getattribute__" = some (some (.builtin "BaseException.__getattribute__"))
  gg : findIn K (.ref C) "__getattr__" = some none
  noN : findIn K (.ref C) "value" = some none
  iC : findIn K (.ref C) "__init__" = some (some (.ref fI))
  tC : typeIn K (.ref fI) = some (.type "function")
  kC : keepIn K (.ref C) = true
  exC : subIn K (.ref C) (.type "BaseException") = some true
  tyC : typeIn K (.ref C) = some (.type "type")
  hdC : hasDictIn K C = true
  te : exmOne K (.ref C) (.ref C) = some true
  fn : ∃ (oc : Value) (od : Option Addr) (doc pm : Value) (an : Option Addr) (cdv ct : Value) (osl : Array (Option Value)) (p1 p2 q1 q2 q3 q4 : Pos),
    K.lookup fI = some ⟨oc, od, .func (fnOf "__init__" qn (iA p1 p2) (iB q1 q2 q3 q4) iS .none .none doc pm an cdv ct), osl⟩ ∧ codeIn K cdv qn = true
theorem one_size (v : Value) : [v].length ≤ sizeLine := by
  rw [sizeLine_eq]
  exact (by decide : 1 ≤ 16777216)
theorem kept_but {K : Frag} {h h' : Heap} {x : Addr} (X : K.In h) (hx : K.lookup x = none) (k : ∀ b o, b ≠ x → h.get? b = some o → h'.get? b = some o) : K.In h' := fun a o e =>
  k a o (fun z => by rw [z, hx] at e; cases e) (X a o e)
theorem ldC {M : Model} {s : Shared} {name : Str} {scope : Scope} {L a : Addr} {cd : Value} {m : Str → Option Value} {x : Str} {pos : Pos} {v : Value} {Q : Value → Shared → Prop} {A : Around} {E : Value → Shared → Prop} (hn : s.heap.Ns L m) (hv : m x = some v) (h : Q v s)
    (hk : scope.kind = .function := by rfl) (hl : (envOfC name scope L a cd).kindOf x = some .local := by rfl) (hd : (x == ("__debug__" : Str)) = false := by decide) :
    wpAny M A (eval (.Name x pos) (envOfC name scope L a cd)) Q E s := wpAny_Name (wpAny_loadName_local hk hl hn hv h) hd
/-- what __init__ leaves of a fresh exception at x -/
structure InitEnd (h h' : Heap) (x C dx t1 : Addr) (v : Value) : Prop where
  keep : ∀ b o, b ≠ x → h.get? b = some o → h'.get? b = some o
  obj : h'.get? x = some { cls := .ref C, dict := some dx, data := .fields #[.ref t1, .none, .none, .none, .bool false, .none] }
  dbig : h.objs.size ≤ dx
  dne : dx ≠ x
  ns : h'.Ns1 dx (fun y => if y = "value" then some v else none)
/-- a made Low -/
structure OwnMade (h h' : Heap) (e C d : Addr) (v : Value) : Prop where
  keep : ∀ b o, h.get? b = some o → h'.get? b = some o
  new : h.objs.size ≤ e
  obj : ∃ oe vs, h'.get? e = some oe ∧ oe.cls = .ref C ∧ oe.dict = some d ∧ oe.data = .fields vs ∧ vs[1]? = some .none
  dbig : h.objs.size ≤ d
  dne : d ≠ e
  ns : h'.Ns1 d (fun y => if y = "value" then some v else none)
section
variable {prog : Program} {w : World} {A : Around} {E : Value → Shared → Prop} {R : Result → Shared → Prop} {s : Shared} {K : Frag} {mg : Str → Option Value} {nm : Str} {qn : String} {C fI : Addr}
theorem low_init (T : LowTxt K mg nm qn C fI) {x t0 : Addr} {v : Value} (X : K.In s.heap) (hlim : s.heap.NoLimit) (hx : s.heap.get? x = some (excO C t0)) (hnx : K.lookup x = none) (hroom : A.depth < recursionLimit)
    (hq : ∀ h' tk dx, InitEnd s.heap h' x C dx t0 v → R (.ok (.ret .none)) { s with heap := h', toks := tk }) :
    codeAny (model prog w) A (.call (.ref fI) ⟨[.ref x, v], []⟩) R s := by
  obtain ⟨oc, od, doc, pm, an, cdv, ct, osl, p1, p2, q1, q2, q3, q4, ho, hcd⟩ := T.fn
  obtain ⟨nmC, q, N, bs, bm, sn, sub, ab, col, dd, k0, k1, k2, k3, k5, hC, hbm⟩ := T.cls
  have hcl : clsIn K C = some { name := nmC, bases := bs, mro := .ref C :: bm, ns := N, qualname := q, hasDict := true, slotNames := sn, subclasses := sub, abstract := ab, collection := col, hasDel := false } := by unfold clsIn; rw [hC] <;> rfl
  refine Att.call_fn (binds := [("self", .ref x), ("value", v)]) X hlim ho hcd hroom (BindsTo.of_eq (by first | rfl | with_unfolding_all rfl)) (by first | rfl | decide | with_unfolding_all rfl) (fun s₁ IC => ?_) rfl rfl rfl
  obtain ⟨h₁, tk₁, rfl⟩ := IC.toInCall.same
  have k : ∀ b o, s.heap.get? b = some o → h₁.get? b = some o := IC.toInCall.keep
  have hn := IC.toInCall.ns
  have hxL : s.heap.objs.size ≠ x := Nat.ne_of_gt (Heap.lt_size hx)
  have X₁ : K.In h₁ := X.keeps k
  have hx₁ := k _ _ hx
  -- self.by = by
  show wpAny _ _ (execs _ _) _ _ _
  refine wpAny_execs_cons (plainObj_wpAny_Assign_Attribute ?_)
  refine ldC (v := v) hn (by first | rfl | with_unfolding_all rfl | kernel_rfl) (ldC (v := .ref x) hn (by first | rfl | with_unfolding_all rfl | kernel_rfl) ?_)
  refine set_plain X₁ (ox := excO C t0) (od := none) ⟨hx₁, rfl, rfl, trivial⟩ T.sa ?_
  refine exc_osa X₁ hx₁ hcl (show refsVE (.ref C :: bm) = true from hbm) rfl T.noN (fun h₃ tk₃ dx k₃ dn dne hx₃ hn₃ => ?_)
  show wpAny _ _ (execs _ _) _ _ _
  have z : s.heap.objs.size < h₁.objs.size := hn.lt
  exact wpAny_execs_nil (hq h₃ tk₃ dx ⟨fun b o hb e => k₃ b o hb (k b o e), hx₃, Nat.le_of_lt (Nat.lt_of_lt_of_le z dn), dne, hn₃⟩)
theorem low_made (T : LowTxt K mg nm qn C fI) {v : Value} (X : K.In s.heap) (hlim : s.heap.NoLimit) (hroom : A.depth + 1 < recursionLimit)
    (hq : ∀ h' tk e d, OwnMade s.heap h' e C d v → R (.ok (.ret (.ref e))) { s with heap := h', toks := tk }) :
    codeAny (model prog w) A (.call (.ref C) ⟨[v], []⟩) R s := by
  obtain ⟨nmC, q, N, bs, bm, sn, sub, ab, col, dd, k0, k1, k2, k3, k5, hC, hbm⟩ := T.cls
  obtain ⟨hp, g, dr, tk, os⟩ := s
  have k : ∀ b o, hp.get? b = some o → ((hp.push (kdv_tup [v])).push (excO C hp.objs.size)).get? b = some o := fun b o e => Heap.get?_push_of_some _ (Heap.get?_push_of_some _ e)
  have hget : ((hp.push (kdv_tup [v])).push (excO C hp.objs.size)).get? (hp.objs.size + 1) = some (excO C hp.objs.size) := by heap_get
  have hnx : K.lookup (hp.objs.size + 1) = none := by
    cases e : K.lookup (hp.objs.size + 1) with
    | none => rfl
    | some o =>
      have z : hp.get? (hp.objs.size + 1) = some o := X _ _ e
      exact absurd (Nat.lt_of_succ_lt (Heap.lt_size z)) (Nat.lt_irrefl _)
  refine call_own F.excBase_ValueError (fun X => refsVE_contains X bm hbm) (X _ _ hC) (looks_findIn X T.iC) (fun self => bind_fn X self T.tC) (one_size v) ?_
  refine low_init (s := ⟨(hp.push (kdv_tup [v])).push (excO C hp.objs.size), g, dr, tk, os⟩) T (X.keeps k) (hlim.keeps k) hget hnx ?_ fun h' tk' dx ⟨k', hx, dn, dne, hns⟩ => ?_
  · show A.depth + 1 < recursionLimit
    exact hroom
  · have old : ∀ b o, hp.get? b = some o → h'.get? b = some o := fun b o e => k' b o (Nat.ne_of_lt (Nat.lt_succ_of_lt (Heap.lt_size e))) (k b o e)
    have z : hp.objs.size + 1 + 1 ≤ dx := by
      first
        | (simpa only [Heap.size_push] using dn)
        | exact dn
        | (have q := dn; rw [Heap.size_push, Heap.size_push] at q; exact q)
    exact ⟨rfl, hq h' tk' (hp.objs.size + 1) dx ⟨old, Nat.le_succ _, ⟨_, _, hx, rfl, rfl, rfl, rfl⟩, Nat.le_trans (Nat.le_trans (Nat.le_succ _) (Nat.le_succ _)) z, dne, hns⟩⟩
end
end EzValue
end PySem
namespace L2
open PySem PySem.Spec PyProof.Rows
theorem relO_value {v : V} {v' : Value} (r : RelV v v') (f : Str) : RelO (List.lookup f [(("value" : Str), v)]) (if f = "value" then some v' else none) := by
  by_cases hw : f = "value"
  · subst hw
    rw [if_pos rfl]
    have q : List.lookup ("value" : Str) [(("value" : Str), v)] = some v := by simp [List.lookup]
    rw [q]
    exact r
  · rw [if_neg hw]
    have qw : (f == ("value" : Str)) = false := by simpa using hw
    have q2 : List.lookup f [(("value" : Str), v)] = none := by simp [List.lookup, qw]
    rw [q2]
    trivial
section
variable {X : Cx} {nm : Str} {qn : String} {C fI : Addr}
/-- Low(e) -/
def tMk_value (C : Addr) (ta : TA) : L2.St → Hp → XK → Prop := fun σ H Q => ta σ H fun vs H1 => ∃ v, vs = [v] ∧ ∀ d, H1 d = none → Q (.ref C) (some d) (upd H1 d (.xd [(("value" : Str), v)]))
theorem pmk_value {a : Expr} {ta : TA} {p pos : Pos} {k : Nat} (T : PySem.EzValue.LowTxt X.K X.mg nm qn C fI) (hr : Room k X.A) (ha : PA X [a] ta) (hg : Gl X nm := by rfl) (hdb : (nm == ("__debug__" : Str)) = false := by decide)
    (he : starEach (a :: []) X.env = (false, eval a X.env) :: starEach [] X.env := by rfl) (hpl : (backTo pos (starEach [] X.env)).any (·.1) = false := by rfl) :
    PMk X (.Call (.Name nm p) [a] [] pos) (tMk_value C ta) := by
  intro pins s σ H Q I h
  refine wpAny_Call_Name_kw (ld_glob I hg T.gC ?_ hdb)
  refine PySem.W.callWith_K (h₀ := X.base) I.ok.mod.kin T.kC (thn (ha.run pos pins s σ H _ I h) fun us s1 hh => ?_) he hpl
  obtain ⟨vs, H1, I1, r1, v, ev, q1⟩ := hh
  subst ev
  refine ⟨I1.kIn, ?_⟩
  cases r1 with
  | cons rv rn =>
    rename_i v' us'
    cases rn
    show wpAny _ _ (call (.ref C) [v']) _ _ _
    have hlim := I1.nolimit
    obtain ⟨hp, g, dr, tk, os⟩ := s1
    refine wpAny_call (PySem.EzValue.low_made T I1.kIn hlim (by have := hr.dp; omega) fun h' tk' e d M => ?_)
    show MkP X pins σ Q (.ref e) ⟨h', g, dr, tk', os⟩
    obtain ⟨oe, fv, hoe, hc, hd, hdat, h1⟩ := M.obj
    have hns := M.ns
    obtain ⟨G', g1, g2⟩ := restrict h' fun b => decide (b ≠ e)
    have gk : ∀ b, b ≠ e → G'.get? b = h'.get? b := fun b hb => g1 b (decide_eq_true hb)
    have ge : G'.get? e = none := g2 e (by simp)
    have old : ∀ b o, hp.get? b = some o → G'.get? b = some o := fun b o q => (gk b (Nat.ne_of_lt (Nat.lt_of_lt_of_le (Heap.lt_size q) M.new))).trans (M.keep b o q)
    have ob : ObjOk X.prog X.w (upd H1 d (.xd [(("value" : Str), v)])) G' d (.xd [(("value" : Str), v)]) :=
      ⟨_, hns.at (fun o q => (gk d M.dne).trans q), fun f => relO_value rv f⟩
    have J : Inv X pins σ (upd H1 d (.xd [(("value" : Str), v)])) ⟨G', g, dr, tk', os⟩ := I1.laid (t' := tk') old M.dbig ob
    refine ⟨e, oe, fv, ⟨G', g, dr, tk', os⟩, _, .ref C, some d, rfl, J, fun b o q => ?_, ge, hoe, ⟨hc, hd⟩, hdat, h1, ?_, rfl, I1.bare, raises_own T.exC T.tyC, q1 d (I1.hok.fresh M.dbig)⟩
    · by_cases hb : b = e
      · have q' : G'.get? b = some o := q
        rw [hb, ge] at q'; cases q'
      · exact (gk b hb).symm.trans q
    · rw [upd_ne (Ne.symm M.dne)]
      exact I1.hok.fresh M.new
/-- raise Low(e) -/
def tRaise_value (C : Addr) (W : WX) (ta : TA) : TS := fun _ σ H => tMk_value C ta σ H fun cls d H' => W cls d σ H'
theorem ps_raise_value {a : Expr} {ta : TA} {W : WX} {p pos pos2 : Pos} {k : Nat} (hc : X.calm = true) (T : PySem.EzValue.LowTxt X.K X.mg nm qn C fI) (hr : Room k X.A) (tk : Takes X W) (ha : PA X [a] ta) (hg : Gl X nm := by rfl) (hdb : (nm == ("__debug__" : Str)) = false := by decide)
    (he : starEach (a :: []) X.env = (false, eval a X.env) :: starEach [] X.env := by rfl) (hpl : (backTo pos (starEach [] X.env)).any (·.1) = false := by rfl) :
    PS X (.Raise (some (.Call (.Name nm p) [a] [] pos)) none pos2) (tRaise_value C W ta) := ps_raise hc tk (pmk_value T hr ha hg hdb he hpl)
/-- low.by, low the exception that the suite holds (at a; its class cls, its dict d) -/
def tBy_value (C : Addr) (a : Addr) (cls : Value) (d : Option Addr) (te : TE) : TE := fun σ H Q => te σ H fun x H1 => x = .ref a ∧ cls = .ref C ∧ ∃ (dd : Addr) (v : V), d = some dd ∧ H1 dd = some (.xd [(("value" : Str), v)]) ∧ Q v H1
theorem pe_by_value {a : Addr} {oe : Obj} {cls : Value} {d : Option Addr} {pn : List (Addr × Obj)} {e : Expr} {te : TE} {pos : Pos} (T : PySem.EzValue.LowTxt X.K X.mg nm qn C fI) (hz : Zc cls d oe) (hf : ∃ vs, oe.data = .fields vs) (he : PE (X.suite a ((a, oe) :: pn)) e te)
    (hb : attributeBase e "value" X.env (eval e X.env) = eval e X.env := by rfl) :
    PE (X.suite a ((a, oe) :: pn)) (.Attribute e "value" pos) (tBy_value C a cls d te) := by
  refine ⟨fun pins s σ H Q I h => ?_⟩
  refine attr_of hb (thn (he.run pins s σ H _ I h) fun u s1 hh => ?_)
  obtain ⟨x, H1, I1, rx, ex, ec, dd, v, ed, ea, q⟩ := hh
  subst ex
  obtain rfl : u = Value.ref a := rx
  subst ec
  subst ed
  obtain ⟨ha, _⟩ := I1.pin (a, oe) (List.mem_append_left _ List.mem_cons_self)
  obtain ⟨vs, hd⟩ := hf
  have hx : ObjOk X.prog X.w H1 s1.heap dd (.xd [(("value" : Str), v)]) := I1.hok dd _ ea
  obtain ⟨mA, hns, hr⟩ := hx
  obtain ⟨od, ho, hl⟩ := lookIn_ns hns
  have l : List.lookup ("value" : Str) [(("value" : Str), v)] = some v := by simp [List.lookup]
  obtain ⟨u, hu, ru⟩ := RelO.some_of (v := v) (o := mA "value") (by rw [← l]; exact hr "value")
  have J : PySem.W.InstAt s1.heap a oe C (some od) := ⟨ha, hz.1, by unfold PySem.W.notCls; rw [hd] <;> rfl, by rw [hz.2]; exact ho⟩
  exact HandSPX.exc_get I1.kIn J T.ga T.gg T.exC (PySem.W.findObj_own T.hdC T.noN rfl (by rw [hl, hu])) (handed_of ru) ⟨v, H1, I1.tok _, ru, q⟩
end
end L2


namespace Gd
open PySem PySem.Spec PyProof.Rows L2
/-- an except clause: its class, the slot of its name, what its suite reads -/
structure Cl where
  c : Value
  i : Option Nat
  ts : Addr → Value → Option Addr → TS
/-- behind the suite of a clause with a name the name is gone -/
def gone (D : Ends) (i : Nat) : Ends :=
  { nx := fun σ H => D.nx (σ.set i none) H, rt := D.rt, bk := fun σ H => D.bk (σ.set i none) H, ct := fun σ H => D.ct (σ.set i none) H }
/-- what the suite of a clause is asked -/
def atCl (q : Cl) (D : Ends) (a : Addr) (cls : Value) (d : Option Addr) (σ : L2.St) (H : Hp) : Prop :=
  match q.i with
  | some i => q.ts a cls d (gone D i) (σ.set i (some (.ref a))) H
  | none => q.ts a cls d D σ H
/-- what the clauses wish of an exception; where none of the told ones takes it, that can't be -/
def wCl (K : PySem.W.Frag) (D : Ends) : List Cl → WX
  | [] => fun _ _ _ _ => False
  | q :: r => fun cls d σ H => ∃ b, PySem.W.exmOne K cls q.c = some b ∧ (b = true → ∀ a, H a = none → atCl q D a cls d σ H) ∧ (b = false → wCl K D r cls d σ H)
inductive HdG (X : Cx) : List ExceptHandler → List Cl → Prop
  | stop (hds : List ExceptHandler) : HdG X hds []
  | as {x n : Str} {i : Nat} {c : Value} {ts : Addr → Value → Option Addr → TS} {b₀ : Stmt} {suite : List Stmt} {np ps : Pos} {hds : List ExceptHandler} {l : List Cl} (hi : X.N[i]? = some n) (hl : X.env.kindOf n = some .local) (hc : Names X x c)
      (hsu : ∀ (a : Addr) (oe : Obj) (cls : Value) (d : Option Addr) (pn : List (Addr × Obj)), Zc cls d oe → (∃ vs, oe.data = .fields vs) → PSs (X.suite a ((a, oe) :: pn)) (b₀ :: suite) (ts a cls d)) (r : HdG X hds l) :
      HdG X (.ExceptHandler (some (.Name x np)) (some n) (b₀ :: suite) ps :: hds) (⟨c, some i, ts⟩ :: l)
  | bare {x : Str} {c : Value} {ts : Addr → Value → Option Addr → TS} {b₀ : Stmt} {suite : List Stmt} {np ps : Pos} {hds : List ExceptHandler} {l : List Cl} (hc : Names X x c)
      (hsu : ∀ (a : Addr) (oe : Obj) (cls : Value) (d : Option Addr) (pn : List (Addr × Obj)), Zc cls d oe → (∃ vs, oe.data = .fields vs) → PSs (X.suite a ((a, oe) :: pn)) (b₀ :: suite) (ts a cls d)) (r : HdG X hds l) :
      HdG X (.ExceptHandler (some (.Name x np)) none (b₀ :: suite) ps :: hds) (⟨c, none, ts⟩ :: l)
section
variable {X : Cx} {body : List Stmt} {h₀ : ExceptHandler} {hds : List ExceptHandler} {l : List Cl} {pos : Pos} {tb : WX → TS}
theorem ps_tryG (hs : X.stack = X.env :: X.outer) (hf : X.env.frame = some X.env.locals) (hN : X.N.Nodup)
    (hb : ∀ (W : WX) (pn : List (Addr × Obj)) (xe : Value → Shared → Prop), Takes (X.tr pn xe) W → PassesOwn (model X.prog X.w) X.A X.env xe → PSs (X.tr pn xe) body (tb W))
    (hh : HdG X (h₀ :: hds) l) : PS X (.Try body (h₀ :: hds) [] [] pos) (fun D σ H => tb (wCl X.K D l) D σ H) := by
  refine ⟨fun pins s σ H D I h => ?_⟩
  have ok := I.ok
  have hfr : X.A.frames = some (X.env :: X.outer) := ok.frames.trans (congrArg some hs)
  refine wpAny_Try_except (wpAny_mono ((hb (wCl X.K D l) (X.pn ++ pins) _ ?caught PassesOwn.looking).run [] s σ H D (I.toTry _) h) ?norm fun _ _ z => z)
  case norm =>
    intro f s1 hsp
    match f, hsp with
    | .next, ⟨σ', H', J, q⟩ => exact wpAny_execs_nil ⟨σ', H', J.ofTry ok, q⟩
    | .brk, ⟨σ', H', J, q⟩ => exact ⟨σ', H', J.ofTry ok, q⟩
    | .cont, ⟨σ', H', J, q⟩ => exact ⟨σ', H', J.ofTry ok, q⟩
    | .ret u, ⟨v, σ', H', J, r, q⟩ => exact ⟨v, σ', H', J.ofTry ok, r, q⟩
  case caught =>
    intro u s' xx
    obtain ⟨a, B, sI, pins', σ', H', cls, d, rfl, J', nb, up, sky, na, os, ag, w⟩ := xx
    have J : Inv X pins σ' H' sI := J'.ofTry ok
    rw [show (X.tr (X.pn ++ pins) _).stack = X.env :: X.outer from hs] at sky
    show wpAny _ X.A (noteFrame (.ref a) X.env) _ _ _
    refine Sky.land Zc.steady hfr hf sky fun h3 fl3 up3 => ?_
    have J3 : Inv X pins σ' H' { s' with heap := h3 } := J.landed nb fl3.1 (up.trans up3) os ag
    obtain ⟨oe3, vs3, he3, hz3, hd3⟩ := fl3.there
    have nfr : a ∉ frs (X.env :: X.outer) := fun hm => by
      obtain ⟨_, o, e, hn⟩ := fl3.2.2.1.mem hm
      rw [he3] at e
      cases e
      exact hn _ hd3
    have nL : a ≠ X.env.locals := fun z => nfr (List.mem_filterMap.mpr ⟨X.env, List.mem_cons_self, by rw [hf, z]⟩)
    have nF : a ∉ X.fs := fun hm => nfr (let ⟨e, he, q⟩ := List.mem_filterMap.mp hm; List.mem_filterMap.mpr ⟨e, List.mem_cons_of_mem _ he, q⟩)
    have S3 := J3.suite he3 hd3 na nL nF
    have LT : PySem.W.Looks (model X.prog X.w) h3 (typeOf (.ref a)) cls := fun A Q E s k q => wpAny_typeOf_ref (k _ _ he3) (by rw [hz3.1]; exact q)
    have test : ∀ {x : Str} {c : Value} {np : Pos} {Q E : Value → Shared → Prop}, Names X x c → Q c { s' with heap := h3 } → wpAny (model X.prog X.w) (X.A.mark (some (.ref a))) (eval (.Name x np) X.env) Q E { s' with heap := h3 } := by
      rintro x c np Q E ⟨hg, hdb, hm | ⟨hm, hv, hn⟩⟩ q
      · exact ld_glob (X := X.suite a ((a, oe3) :: (X.pn ++ pins))) S3 hg hm q hdb
      · exact ld_blt (X := X.suite a ((a, oe3) :: (X.pn ++ pins))) S3 hg hm hv q hn hdb
    suffices go : ∀ {hs : List ExceptHandler} {cl : List Cl}, HdG X hs cl → wCl X.K D cl cls d σ' H' → wpAny (model X.prog X.w) X.A (handleBy (.ref a) X.env hs) (SP X pins D) X.xe { s' with heap := h3 } from go hh w
    intro hs' cl k
    induction k with
    | stop => exact fun w => w.elim
    | @as x n i c ts b₀ suite np ps hds l hi hl hc hsu r ih =>
      rintro ⟨b, hb1, yes, no⟩
      have hb2 := PySem.W.exm_one (M := model X.prog X.w) J3.kIn LT hb1
      refine wpAny_handleBy_cons (codeAny_handlers_test (test hc (hb2.here ?_))) (fun q => nomatch q)
      cases b with
      | false => exact ih (no rfl)
      | true =>
        refine codeAny_handlers_suite_as (HandSPX.lands_againZ fl3 fun h4 fl4 up4 => ?_)
        have J4 : Inv X pins σ' H' { s' with heap := h4 } := J.landed nb fl4.1 ((up.trans up3).trans up4) os ag
        obtain ⟨oe4, vs4, he4, hz4, hd4⟩ := fl4.there
        refine store_ok (X := X.suite a ((a, oe4) :: (X.pn ++ pins))) (v := .ref a) (J4.suite he4 hd4 na nL nF) hN hi (.inl hl) rfl (fun s5 S5 => ?_) (.inr hl)
        refine wpAny_mono ((hsu a oe4 cls d (X.pn ++ pins) hz4 ⟨_, hd4⟩).run [] s5 _ H' (gone D i) S5 (yes rfl a na)) (fun f s6 hsp => ?_) fun _ _ z => z.elim
        have fin : ∀ {σ6 : L2.St} {H6 : Hp} {Q : Shared → Prop}, Inv (X.suite a ((a, oe4) :: (X.pn ++ pins))) [] σ6 H6 s6 → (∀ s7, Inv X pins (σ6.set i none) H6 s7 → Q s7) →
          wpAny (model X.prog X.w) X.A (do bindName X.env n .none; unbindBehindTheSuite X.env n ps) (fun _ s7 => Q s7) X.xe s6 := fun S6 hq => gone_ok (S6.unsuite ok) hN hi hl hq
        match f, hsp with
        | .next, ⟨σ6, H6, S6, q6⟩ => exact fin S6 fun s7 J7 => ⟨_, _, J7, q6⟩
        | .brk, ⟨σ6, H6, S6, q6⟩ => exact fin S6 fun s7 J7 => ⟨_, _, J7, q6⟩
        | .cont, ⟨σ6, H6, S6, q6⟩ => exact fin S6 fun s7 J7 => ⟨_, _, J7, q6⟩
        | .ret u, ⟨v6, σ6, H6, S6, r6, q6⟩ => exact fin S6 fun s7 J7 => ⟨_, _, _, J7, r6, q6⟩
    | @bare x c ts b₀ suite np ps hds l hc hsu r ih =>
      rintro ⟨b, hb1, yes, no⟩
      have hb2 := PySem.W.exm_one (M := model X.prog X.w) J3.kIn LT hb1
      refine wpAny_handleBy_cons (codeAny_handlers_test (test hc (hb2.here ?_))) (fun q => nomatch q)
      cases b with
      | false => exact ih (no rfl)
      | true =>
        refine codeAny_handlers_suite (HandSPX.lands_againZ fl3 fun h4 fl4 up4 => ?_)
        have J4 : Inv X pins σ' H' { s' with heap := h4 } := J.landed nb fl4.1 ((up.trans up3).trans up4) os ag
        obtain ⟨oe4, vs4, he4, hz4, hd4⟩ := fl4.there
        refine wpAny_mono ((hsu a oe4 cls d (X.pn ++ pins) hz4 ⟨_, hd4⟩).run [] _ _ H' D (J4.suite he4 hd4 na nL nF) (yes rfl a na)) (fun f s6 hsp => ?_) fun _ _ z => z.elim
        match f, hsp with
        | .next, ⟨σ6, H6, S6, q6⟩ => exact ⟨_, _, S6.unsuite ok, q6⟩
        | .brk, ⟨σ6, H6, S6, q6⟩ => exact ⟨_, _, S6.unsuite ok, q6⟩
        | .cont, ⟨σ6, H6, S6, q6⟩ => exact ⟨_, _, S6.unsuite ok, q6⟩
        | .ret u, ⟨v6, σ6, H6, S6, r6, q6⟩ => exact ⟨_, _, _, S6.unsuite ok, r6, q6⟩
end
end Gd

namespace Gd
open PySem PySem.Spec PyProof.Rows L2
/-- a call of a def: the written arguments, then the defaults; what may be let out, at the slots -/
def tCallG (sp : Sp) (dvs : List V) (E : L2.St → XK) (t : TA) : TE := fun σ H Q => t σ H fun vs H1 => sp (vs ++ dvs) H1 Q (E σ)
/-- .. with keywords -/
def tCallH (n m : Nat) (sp : Sp) (gV : List V → List V → List V) (E : L2.St → XK) (t tk : TA) : TE := fun σ H Q => t σ H fun vs H1 => tk σ H1 fun zs H2 => vs.length = n ∧ zs.length = m ∧ sp (gV vs zs) H2 Q (E σ)
section
variable {X : Cx} {CX : CXT} {k n : Nat} {f : Addr} {fd : FuncData} {ps ks : List Str} {sp : Sp} {dvs : List V} {ds : List Value} {E : L2.St → XK} {x : Str} {p pos : Pos} {e : Expr} {es : List Expr} {t tk : TA} {kws : List Keyword}
  {g : List Value → List Value → List Value} {gV : List V → List V → List V}
theorem passN {σ : L2.St} : PassesAt CX0 X σ E0 := fun _ _ _ _ _ _ h => h.elim
theorem passM {σ : L2.St} : PassesAt (L2.CX X.prog X.w) X σ E0 := fun _ _ _ _ _ _ h => by
  obtain ⟨_, _, _, _, _, _, _, _, _, _, _, _, z⟩ := h
  exact z.elim
theorem endC {pins : List (Addr × Obj)} {σ : L2.St} {H : Hp} {s s' : Shared} {Q : VK} {E1 : XK} {r : Result} (hx : PassesAt CX X σ E1) (I : Inv X pins σ H s) (hq : CR CX X.stack X.prog X.w H s Q E1 r s') :
    match (motive := Result → Prop) r with
    | .ok (.ret v) => EP X pins σ Q v s'
    | .ok _ => False
    | .error e => X.xe e s' := by
  match r, hq with
  | .error e, hq => exact hx pins H s e s' I hq
  | .ok (.ret u), hq => exact I.after hq
  | .ok .next, hq => exact False.elim hq
  | .ok .brk, hq => exact False.elim hq
  | .ok .cont, hq => exact False.elim hq
theorem runC {pins : List (Addr × Obj)} {σ : L2.St} {H : Hp} {s : Shared} {Q : VK} {us : List Value} {vs : List V} (F : FnG X.prog X.w X.K X.mg X.base CX k f fd ps sp) (hc : Clean X.A) (hr : Room k X.A)
    (hb : Binds X.K fd ps ds) (hd : Vals dvs ds) (hx : PassesAt CX X σ (E σ)) (I : Inv X pins σ H s) (r : Vals vs us) (h : sp (vs ++ dvs) H Q (E σ)) :
    wpAny (model X.prog X.w) X.A (call (.ref f) us) (EP X pins σ Q) X.xe s := by
  have r2 := r.append hd
  have hl : (us ++ ds).length = ps.length := r2.length ▸ F.len _ _ _ _ h
  refine wpAny_call (codeAny_mono (F.run X.A X.stack s H ⟨us, []⟩ (us ++ ds) (vs ++ dvs) Q (E σ) hc hr I.env0 (hb s us I.kIn hl) r2 h) ?_)
  intro r s' hq
  have z := endC hx I hq
  match r, z with
  | .error e, z => exact z
  | .ok (.ret u), z => exact z
  | .ok .next, z => exact False.elim z
  | .ok .brk, z => exact False.elim z
  | .ok .cont, z => exact False.elim z
theorem runH {pins : List (Addr × Obj)} {σ : L2.St} {H : Hp} {s : Shared} {Q : VK} {us ws : List Value} {vs zs : List V} (F : FnG X.prog X.w X.K X.mg X.base CX k f fd ps sp) (hc : Clean X.A) (hr : Room k X.A)
    (hb : KBn X.K fd ps n ks g gV) (hx : PassesAt CX X σ (E σ)) (I : Inv X pins σ H s) (r : Vals vs us) (rz : Vals zs ws) (l1 : vs.length = n) (l2 : zs.length = ks.length) (h : sp (gV vs zs) H Q (E σ)) :
    wpAny (model X.prog X.w) X.A (call (.ref f) us (ks.zip ws)) (EP X pins σ Q) X.xe s := by
  refine wpAny_call (codeAny_mono (F.run X.A X.stack s H ⟨us, ks.zip ws⟩ (g us ws) (gV vs zs) Q (E σ) hc hr I.env0 (hb.to s us ws I.kIn (r.length.symm.trans l1) (rz.length.symm.trans l2)) (hb.rel r rz) h) ?_)
  intro r s' hq
  have z := endC hx I hq
  match r, z with
  | .error e, z => exact z
  | .ok (.ret u), z => exact z
  | .ok .next, z => exact False.elim z
  | .ok .brk, z => exact False.elim z
  | .ok .cont, z => exact False.elim z
/-- f(e, ..) -/
theorem pe_c (F : FnG X.prog X.w X.K X.mg X.base CX k f fd ps sp) (hc : Clean X.A) (hr : Room k X.A) (hg : Gl X x) (hm : X.mg x = some (.ref f)) (hk : PySem.W.keepIn X.K (.ref f) = true)
    (hb : Binds X.K fd ps ds) (hd : Vals dvs ds) (hx : ∀ σ, PassesAt CX X σ (E σ)) (ha : PA X (e :: es) t) (hdb : (x == ("__debug__" : Str)) = false := by decide)
    (he : starEach (e :: es) X.env = (false, eval e X.env) :: starEach es X.env := by rfl) (hpl : (backTo pos (starEach es X.env)).any (·.1) = false := by rfl) :
    PE X (.Call (.Name x p) (e :: es) [] pos) (tCallG sp dvs E t) := by
  refine ⟨fun pins s σ H Q I h => wpAny_Call_Name_kw (ld_glob I hg hm ?_ hdb)⟩
  exact PySem.W.callWith_K (h₀ := X.base) I.ok.mod.kin hk (thn (ha.run pos pins s σ H _ I h) fun us s1 ⟨vs, H1, I1, r, q⟩ => ⟨I1.kIn, runC F hc hr hb hd (hx σ) I1 r q⟩) he hpl
/-- f() -/
theorem pe_c0 (F : FnG X.prog X.w X.K X.mg X.base CX k f fd ps sp) (hc : Clean X.A) (hr : Room k X.A) (hg : Gl X x) (hm : X.mg x = some (.ref f)) (hk : PySem.W.keepIn X.K (.ref f) = true)
    (hb : Binds X.K fd ps ds) (hd : Vals dvs ds) (hx : ∀ σ, PassesAt CX X σ (E σ)) (hdb : (x == ("__debug__" : Str)) = false := by decide) :
    PE X (.Call (.Name x p) [] [] pos) (tCallG sp dvs E tNil) := by
  refine ⟨fun pins s σ H Q I h => wpAny_Call_Name_kw (ld_glob I hg hm ?_ hdb)⟩
  exact PySem.W.callWith_K0 I.kIn hk (runC (us := []) F hc hr hb hd (hx σ) I .nil h)
/-- f(e, .., k = v, ..) -/
theorem pe_h (F : FnG X.prog X.w X.K X.mg X.base CX k f fd ps sp) (hc : Clean X.A) (hr : Room k X.A) (hg : Gl X x) (hm : X.mg x = some (.ref f)) (hk : PySem.W.keepIn X.K (.ref f) = true)
    (hb : KBn X.K fd ps n ks g gV) (hx : ∀ σ, PassesAt CX X σ (E σ)) (ha : PA X (e :: es) t) (hkw : PK X kws tk)
    (hall : (backToKw pos (keywordEach kws X.env)).all (·.1.isSome) = true := by rfl) (hks : (backToKw pos (keywordEach kws X.env)).filterMap (·.1) = ks := by rfl) (hdb : (x == ("__debug__" : Str)) = false := by decide)
    (he : starEach (e :: es) X.env = (false, eval e X.env) :: starEach es X.env := by rfl)
    (hpl : ((backTo pos (starEach (e :: es) X.env)).any (·.1) || (backToKw pos (keywordEach kws X.env)).any (·.1.isNone)) = false := by rfl) :
    PE X (.Call (.Name x p) (e :: es) kws pos) (tCallH n ks.length sp gV E t tk) := by
  refine ⟨fun pins s σ H Q I h => wpAny_Call_Name_kw (ld_glob I hg hm ?_ hdb)⟩
  refine PySem.W.callWith_KW (h₀ := X.base) I.ok.mod.kin hk hall (thn (ha.run pos pins s σ H _ I h) fun us s1 ⟨vs, H1, I1, r, q⟩ => ?_) hpl he
  refine thn (hkw.run pos pins s1 σ H1 _ I1 q) fun ws s2 ⟨zs, H2, I2, rz, l1, l2, q2⟩ => ⟨I2.kIn, ?_⟩
  rw [hks]
  exact runH F hc hr hb (hx σ) I2 r rz l1 l2 q2
/-- f(k = v, ..) -/
theorem pe_h0 (F : FnG X.prog X.w X.K X.mg X.base CX k f fd ps sp) (hc : Clean X.A) (hr : Room k X.A) (hg : Gl X x) (hm : X.mg x = some (.ref f)) (hk : PySem.W.keepIn X.K (.ref f) = true)
    (hb : KBn X.K fd ps 0 ks g gV) (hx : ∀ σ, PassesAt CX X σ (E σ)) (hkw : PK X kws tk)
    (hall : (backToKw pos (keywordEach kws X.env)).all (·.1.isSome) = true := by rfl) (hks : (backToKw pos (keywordEach kws X.env)).filterMap (·.1) = ks := by rfl) (hdb : (x == ("__debug__" : Str)) = false := by decide)
    (hpl : ((backTo pos (starEach [] X.env)).any (·.1) || (backToKw pos (keywordEach kws X.env)).any (·.1.isNone)) = false := by rfl) :
    PE X (.Call (.Name x p) [] kws pos) (tCallH 0 ks.length sp gV E tNil tk) := by
  refine ⟨fun pins s σ H Q I h => wpAny_Call_Name_kw (ld_glob I hg hm ?_ hdb)⟩
  refine PySem.W.callWith_KW0 (h₀ := X.base) I.ok.mod.kin hk hall (thn (hkw.run pos pins s σ H _ I h) fun ws s2 ⟨zs, H2, I2, rz, l1, l2, q2⟩ => ⟨I2.kIn, ?_⟩) hpl
  rw [hks]
  exact runH (us := []) F hc hr hb (hx σ) I2 .nil rz l1 l2 q2
end
end Gd

namespace Gd
open PySem PySem.Spec PyProof.Rows L2
/-! ### data as it stands in the heap, dicts among it -/
def kD : Key → PyData
  | .inl i => .int i
  | .inr x => .str x
mutual
inductive Da (K : PySem.W.Frag) (H : Hp) : V → PyData → Prop
  | non : Da K H .non .none
  | bl (b : Bool) : Da K H (.bl b) (.bool b)
  | int (i : Int) : Da K H (.int i) (.int i)
  | str (x : Str) : Da K H (.str x) (.str x)
  | lst {a : Addr} {xs : List V} {ds : List PyData} : H a = some (.lst xs) → DaL K H xs ds → Da K H (.ref a) (.list ds)
  | tup {a : Addr} {xs : List V} {ds : List PyData} : SqT K H a xs → DaL K H xs ds → Da K H (.ref a) (.tuple ds)
  | dct {a : Addr} {kvs : List (Key × V)} {ds : List PyData} : H a = some (.dK kvs) → DaL K H (kvs.map (·.2)) ds → Da K H (.ref a) (.dict ((kvs.map fun p => kD p.1).zip ds))
inductive DaL (K : PySem.W.Frag) (H : Hp) : List V → List PyData → Prop
  | nil : DaL K H [] []
  | cons {v : V} {vs : List V} {d : PyData} {ds : List PyData} : Da K H v d → DaL K H vs ds → DaL K H (v :: vs) (d :: ds)
end
section
variable {K : PySem.W.Frag} {H H' : Hp}
theorem DaL.length : ∀ {vs : List V} {ds : List PyData}, DaL K H vs ds → ds.length = vs.length
  | _, _, .nil => rfl
  | _, _, .cons _ r => by rw [List.length_cons, List.length_cons, r.length]
theorem sameT {a : Addr} {xs : List V} (e : Same H H') (h : SqT K H a xs) : SqT K H' a xs := by
  rcases h with (h | ⟨o, h⟩) | h
  · exact .inl (.inl (e _ _ h))
  · exact .inl (.inr ⟨o, e _ _ h⟩)
  · exact .inr h
mutual
theorem Da.same (e : Same H H') : ∀ {v : V} {d : PyData}, Da K H v d → Da K H' v d
  | _, _, .non => .non
  | _, _, .bl b => .bl b
  | _, _, .int i => .int i
  | _, _, .str x => .str x
  | _, _, .lst h r => .lst (e _ _ h) (DaL.same e r)
  | _, _, .tup h r => .tup (sameT e h) (DaL.same e r)
  | _, _, .dct h r => .dct (e _ _ h) (DaL.same e r)
theorem DaL.same (e : Same H H') : ∀ {vs : List V} {ds : List PyData}, DaL K H vs ds → DaL K H' vs ds
  | _, _, .nil => .nil
  | _, _, .cons h r => .cons (Da.same e h) (DaL.same e r)
end
theorem DaL.append : ∀ {vs ws : List V} {ds es : List PyData}, DaL K H vs ds → DaL K H ws es → DaL K H (vs ++ ws) (ds ++ es)
  | _, _, _, _, .nil, r => r
  | _, _, _, _, .cons h t, r => .cons h (DaL.append t r)
theorem DaL.strs : ∀ l : List Str, DaL K H (l.map V.str) (l.map PyData.str)
  | [] => .nil
  | x :: l => .cons (.str x) (DaL.strs l)
theorem DaL.ints : ∀ l : List Int, DaL K H (l.map V.int) (l.map PyData.int)
  | [] => .nil
  | x :: l => .cons (.int x) (DaL.ints l)
theorem DaL.bls : ∀ l : List Bool, DaL K H (l.map V.bl) (l.map PyData.bool)
  | [] => .nil
  | x :: l => .cons (.bl x) (DaL.bls l)
end
/-! ### what stands there is read -/
section
variable {X : Cx} {pins : List (Addr × Obj)} {σ : L2.St} {H : Hp} {s : Shared}
abbrev Free (as : List Addr) : Prop := sysModules ∉ as
theorem free_cons {a : Addr} {as : List Addr} (h : a ≠ sysModules) (r : Free as) : Free (a :: as) := fun m =>
  (List.mem_cons.mp m).elim (fun e => h e.symm) r
theorem free_app {as bs : List Addr} (h : Free as) (r : Free bs) : Free (as ++ bs) := fun m => (List.mem_append.mp m).elim h r
theorem notSys (I : Inv X pins σ H s) (hS : SysIn X.base) {a : Addr} {o : HO} (h : H a = some o) : a ≠ sysModules := by
  rintro rfl
  obtain ⟨ob, hb⟩ := hS
  rw [(I.bs _ _ hb).2] at h
  exact nomatch h
theorem key_reads : ∀ (kvs : List (Key × V)) (vs : List (Key × Value)) (es : List DictEntry), KV kvs vs → Pairs (mixKind X.prog X.w) es vs →
    (∃ as, ReadsAll s.heap (es.map (·.key)) (kvs.map fun p => kD p.1) as ∧ Free as) ∧ Vals (kvs.map (·.2)) (es.map (·.val))
  | _, _, _, .nil, .nil => ⟨⟨[], .nil, List.not_mem_nil⟩, .nil⟩
  | _, _, _, .cons ⟨ek, rv⟩ r, .cons hk hv p => by
    obtain ⟨⟨as, h1, h2⟩, h3⟩ := key_reads _ _ _ r p
    refine ⟨?_, .cons (by show RelV _ (DictEntry.val _); rw [hv]; exact rv) h3⟩
    rw [← ek] at hk
    rcases keyIs_shape hk with ⟨i, t, e1, e2⟩ | ⟨y, t, e1, e2⟩
    · refine ⟨[] ++ as, ?_, h2⟩
      refine .cons ?_ h1
      show Reads _ (DictEntry.key _) (kD _) []
      rw [e1, e2]
      exact .int i t
    · refine ⟨[] ++ as, ?_, h2⟩
      refine .cons ?_ h1
      show Reads _ (DictEntry.key _) (kD _) []
      rw [e1, e2]
      exact .str y t
theorem zip_fst : ∀ (ks ds : List PyData), ks.length = ds.length → (ks.zip ds).map (·.1) = ks
  | [], _, _ => rfl
  | _ :: _, [], h => nomatch h
  | k :: ks, d :: ds, h => by
    show k :: (ks.zip ds).map (·.1) = k :: ks
    rw [zip_fst ks ds (Nat.succ.inj h)]
theorem zip_snd : ∀ (ks ds : List PyData), ks.length = ds.length → (ks.zip ds).map (·.2) = ds
  | [], [], _ => rfl
  | [], _ :: _, h => nomatch h
  | _ :: _, [], h => nomatch h
  | k :: ks, d :: ds, h => by
    show d :: (ks.zip ds).map (·.2) = d :: ds
    rw [zip_snd ks ds (Nat.succ.inj h)]
mutual
theorem Da.reads (I : Inv X pins σ H s) (hS : SysIn X.base) : ∀ {v : V} {d : PyData} {u : Value}, Da X.K H v d → RelV v u → ∃ as, Reads s.heap u d as ∧ Free as
  | _, _, _, .non, r => by
    cases r
    exact ⟨_, .none, List.not_mem_nil⟩
  | _, _, _, .bl b, r => by
    cases r
    exact ⟨_, .bool b, List.not_mem_nil⟩
  | _, _, _, .int i, ⟨t, r⟩ => by
    cases r
    exact ⟨_, .int i t, List.not_mem_nil⟩
  | _, _, _, .str x, ⟨t, r⟩ => by
    cases r
    exact ⟨_, .str x t, List.not_mem_nil⟩
  | _, _, _, .lst h q, r => by
    cases r
    obtain ⟨_, its, n, rv, ho⟩ := I.hok _ _ h
    obtain ⟨as, h1, h2⟩ := DaL.reads I hS q rv
    exact ⟨_, .list ho rfl rfl h1, free_cons (notSys I hS h) h2⟩
  | _, _, _, .tup h q, r => by
    cases r
    obtain ⟨its, rv, ⟨o, ho, hc, n, hd⟩, _⟩ := I.tuple h
    obtain ⟨as, h1, h2⟩ := DaL.reads I hS q rv
    exact ⟨_, .tuple ho hc hd h1, h2⟩
  | _, _, _, .dct (kvs := kvs) (ds := ds) h q, r => by
    cases r
    obtain ⟨_, hns, vs, rk, o, es, ep, ho, hex, hd, _, hp, _⟩ := I.hok _ _ h
    obtain ⟨⟨as, k1, k2⟩, rv⟩ := key_reads (s := s) kvs vs es.toList rk hp
    obtain ⟨bs, v1, v2⟩ := DaL.reads I hS q rv
    have hl : (kvs.map fun p => kD p.1).length = ds.length := by
      rw [q.length, List.length_map, List.length_map]
    have k1' : ReadsAll s.heap (es.toList.map (·.key)) (((kvs.map fun p => kD p.1).zip ds).map (·.1)) as := by
      rw [zip_fst _ _ hl]
      exact k1
    have v1' : ReadsAll s.heap (es.toList.map (·.val)) (((kvs.map fun p => kD p.1).zip ds).map (·.2)) bs := by
      rw [zip_snd _ _ hl]
      exact v1
    exact ⟨_, .dict ho hex.1 hd k1' v1', free_app (free_cons (notSys I hS h) k2) v2⟩
theorem DaL.reads (I : Inv X pins σ H s) (hS : SysIn X.base) : ∀ {vs : List V} {ds : List PyData} {us : List Value}, DaL X.K H vs ds → Vals vs us → ∃ as, ReadsAll s.heap us ds as ∧ Free as
  | _, _, _, .nil, .nil => ⟨_, .nil, List.not_mem_nil⟩
  | _, _, _, .cons h q, .cons r rs => by
    obtain ⟨as, h1, h2⟩ := Da.reads I hS h r
    obtain ⟨bs, h3, h4⟩ := DaL.reads I hS q rs
    exact ⟨_, .cons h1 h3, free_app h2 h4⟩
end
end
/-! ### the room that a written form takes -/
mutual
/-- more than its written form has signs -/
def wid : PyData → Nat
  | .none => 4
  | .bool _ => 5
  | .int i => i.natAbs.log2 + 3
  | .str x => 10 * x.length + 2
  | .list xs => widL xs + 2
  | .tuple xs => widL xs + 3
  | .dict kvs => widK kvs + 2
def widL : List PyData → Nat
  | [] => 0
  | x :: xs => wid x + 2 + widL xs
def widK : List (PyData × PyData) → Nat
  | [] => 0
  | (k, v) :: r => wid k + wid v + 4 + widK r
end
mutual
/-- it can be written: the signs of its texts are signs, its numbers are not too great -/
def Ok1 : PyData → Prop
  | .none => True
  | .bool _ => True
  | .int i => i.natAbs.log2 < 1920
  | .str x => ∀ c ∈ x.cps.toList, c < 16 ^ 8
  | .list xs => OkL xs
  | .tuple xs => OkL xs
  | .dict kvs => OkK kvs
def OkL : List PyData → Prop
  | [] => True
  | x :: xs => Ok1 x ∧ OkL xs
def OkK : List (PyData × PyData) → Prop
  | [] => True
  | (k, v) :: r => Ok1 k ∧ Ok1 v ∧ OkK r
end

mutual
theorem ok_show : ∀ d : PyData, Ok1 d → d.showable = true
  | .none, _ => rfl
  | .bool _, _ => rfl
  | .int _, h => decide_eq_true h
  | .str _, _ => rfl
  | .list xs, h => ok_showL xs h
  | .tuple xs, h => ok_showL xs h
  | .dict kvs, h => ok_showK kvs h
theorem ok_showL : ∀ xs : List PyData, OkL xs → PyData.showableAll xs = true
  | [], _ => rfl
  | x :: xs, h => by
    show (PyData.showable x && PyData.showableAll xs) = true
    rw [ok_show x h.1, ok_showL xs h.2]
    rfl
theorem ok_showK : ∀ xs : List (PyData × PyData), OkK xs → PyData.showableKv xs = true
  | [], _ => rfl
  | (k, v) :: xs, h => by
    show (PyData.showable k && PyData.showable v && PyData.showableKv xs) = true
    rw [ok_show k h.1, ok_show v h.2.1, ok_showK xs h.2.2]
    rfl
end
theorem textFrom_le : ∀ (ts : List Str) (k : Nat) (acc : Str), (textFrom k acc ts).length ≤ acc.length + (ts.map fun t => t.length + 2).sum
  | [], _, acc => Nat.le_add_right _ _
  | t :: r, k, acc => by
    have ih := textFrom_le r (k + 1) (acc ++ (if k > 0 then ", " else "" : String) ++ t)
    rw [strLen_append, strLen_append] at ih
    have e : (((if k > 0 then ", " else "" : String) : Str)).length ≤ 2 := by split <;> decide +kernel
    rw [List.map_cons, List.sum_cons]
    show (textFrom (k + 1) (acc ++ (if k > 0 then ", " else "" : String) ++ t) r).length ≤ _
    omega
theorem listText_le (ts : List Str) : (listText ts).length ≤ 2 + (ts.map fun t => t.length + 2).sum := by
  have h := textFrom_le ts 0 "["
  have e1 : (("[" : String) : Str).length = 1 := by decide +kernel
  have e2 : (("]" : String) : Str).length = 1 := by decide +kernel
  unfold listText
  rw [strLen_append]
  omega
theorem piled_map : ∀ ts : List Str, piled ts = (ts.map fun t => t.length + 2).sum
  | [] => rfl
  | t :: r => by
    rw [piled_cons, piled_map r, List.map_cons, List.sum_cons]
theorem join_le (ts : List Str) : (Str.join ", " ts).length ≤ (ts.map fun t => t.length + 2).sum := by
  by_cases h : ts = []
  · subst h
    decide +kernel
  · have := join_length_add ts h
    rw [piled_map] at this
    omega
theorem tupleText_le (ts : List Str) : (tupleText ts).length ≤ 3 + (ts.map fun t => t.length + 2).sum := by
  have e3 : (((if ts.length == 1 then ",)" else ")" : String) : Str)).length ≤ 2 := by split <;> decide +kernel
  have e1 : (("(" : String) : Str).length = 1 := by decide +kernel
  have h := join_le ts
  unfold tupleText
  rw [strLen_append, strLen_append]
  omega
theorem dictText_le (ts : List Str) : (dictText ts).length ≤ 2 + (ts.map fun t => t.length + 2).sum := by
  have e1 : (("{" : String) : Str).length = 1 := by decide +kernel
  have e2 : (("}" : String) : Str).length = 1 := by decide +kernel
  have h := join_le ts
  unfold dictText
  rw [strLen_append, strLen_append]
  omega
mutual
theorem wid_le : ∀ d : PyData, Ok1 d → d.shown.length ≤ wid d
  | .none, _ => by show (("None" : String) : Str).length ≤ 4; decide +kernel
  | .bool b, _ => by cases b <;> (show Str.length _ ≤ 5) <;> decide +kernel
  | .int i, _ => by
    have h := int_text_length_le (a := i) (k := i.natAbs.log2 + 1) (Nat.succ_pos _) (Nat.lt_succ_self _)
    show (Str.ofString (toString i)).length ≤ i.natAbs.log2 + 3
    have e : (Str.ofString (toString i)).length = (toString i).length := PySem.ofString_length _
    omega
  | .str x, h => StrLaws.reprText_len x h
  | .list xs, h => by
    have h1 := widL_le xs h
    have h2 := listText_le (PyData.shownAll xs)
    show (listText (PyData.shownAll xs)).length ≤ widL xs + 2
    omega
  | .tuple xs, h => by
    have h1 := widL_le xs h
    have h2 := tupleText_le (PyData.shownAll xs)
    show (tupleText (PyData.shownAll xs)).length ≤ widL xs + 3
    omega
  | .dict xs, h => by
    have h1 := widK_le xs h
    have h2 := dictText_le (PyData.shownKv xs)
    show (dictText (PyData.shownKv xs)).length ≤ widK xs + 2
    omega
theorem widL_le : ∀ xs : List PyData, OkL xs → ((PyData.shownAll xs).map fun t => t.length + 2).sum ≤ widL xs
  | [], _ => Nat.le_refl _
  | x :: xs, h => by
    have h1 := wid_le x h.1
    have h2 := widL_le xs h.2
    show (x.shown.length + 2) + ((PyData.shownAll xs).map fun t => t.length + 2).sum ≤ wid x + 2 + widL xs
    omega
theorem widK_le : ∀ xs : List (PyData × PyData), OkK xs → ((PyData.shownKv xs).map fun t => t.length + 2).sum ≤ widK xs
  | [], _ => Nat.le_refl _
  | (k, v) :: xs, h => by
    have h1 := wid_le k h.1
    have h2 := wid_le v h.2.1
    have h3 := widK_le xs h.2.2
    have e2 : ((": " : String) : Str).length = 2 := by decide +kernel
    show ((k.shown ++ ": " ++ v.shown).length + 2) + ((PyData.shownKv xs).map fun t => t.length + 2).sum ≤ wid k + wid v + 4 + widK xs
    rw [strLen_append, strLen_append]
    omega
end
/-- repr of data: the text, all else as it stood -/
theorem call_repr {X : Cx} (hc : Clean X.A) (hS : SysIn X.base) (hu : X.A.units + 100 < cLine) : CallR X (.builtin "repr") (fun xs H Q => ∃ x d, xs = [x] ∧ Da X.K H x d ∧ Ok1 d ∧ wid d ≤ sizeLine ∧ d.depth ≤ 64 ∧ Q (.str d.shown) H) := by
  intro pins s σ H xs us Q I r h
  obtain ⟨x, d, rfl, hd, ok, hz, hdp, q⟩ := h
  obtain ⟨u, rfl, ru⟩ := vals1 r
  have hz' : d.shown.length ≤ sizeLine := Nat.le_trans (wid_le d ok) hz
  obtain ⟨as, hr, hf⟩ := Da.reads I hS hd ru
  have fin : ∀ (t tk : Tok) (h' : Heap), (∀ b o, s.heap.get? b = some o → h'.get? b = some o) → EP X pins σ Q (.str d.shown t) { s with heap := h', toks := tk } :=
    fun t tk h' k => ⟨.str d.shown, H, I.kept k, ⟨t, rfl⟩, q⟩
  cases hd with
  | non =>
    cases ru
    exact PySem.P.repr_of_none (fin _ _ s.heap fun _ _ e => e)
  | bl b =>
    cases ru
    exact PySem.P.repr_of_bool (fin _ _ s.heap fun _ _ e => e)
  | int i =>
    obtain ⟨t, rfl⟩ := ru
    exact PySem.P.repr_of_int ok (fin _ _ s.heap fun _ _ e => e)
  | str y =>
    obtain ⟨t, rfl⟩ := ru
    exact PySem.P.repr_of_str (fin _ _ s.heap fun _ _ e => e) hz'
  | lst h1 h2 =>
    cases ru
    exact repr_of_reads' hr (ok_show _ ok) (fun _ => hf) hc (by omega) (fun _ _ e => e) (fun h' u tk k => fin u tk h' k) hz'
  | tup h1 h2 =>
    cases ru
    exact repr_of_reads' hr (ok_show _ ok) (fun _ => hf) hc (by omega) (fun _ _ e => e) (fun h' u tk k => fin u tk h' k) hz'
  | dct h1 h2 =>
    cases ru
    exact repr_of_reads' hr (ok_show _ ok) (fun _ => hf) hc (by omega) (fun _ _ e => e) (fun h' u tk k => fin u tk h' k) hz'
end Gd

namespace Gd
open PySem PySem.Spec PyProof.Rows L2
/-! ### a def as its callers see it -/
structure Df (P : Program) (w : World) (K : PySem.W.Frag) (mg : Str → Option Value) (base : Heap) (CX : CXT) (k : Nat) (x : Str) (f : Addr) (fd : FuncData) (ps : List Str) (sp : Sp) : Prop where
  G : FnG P w K mg base CX k f fd ps sp
  m : mg x = some (.ref f)
  kp : PySem.W.keepIn K (.ref f) = true
  b : Binds K fd ps []
theorem room100 {k : Nat} {A : Around} (r : Room k A) : A.units + 100 < cLine := by
  have := r.un
  omega
section
variable {X : Cx} {CX : CXT} {k n : Nat} {f : Addr} {fd : FuncData} {ps ks : List Str} {sp : Sp} {E : L2.St → XK} {x : Str} {p pos : Pos} {e : Expr} {es : List Expr} {t tk : TA} {kws : List Keyword}
  {g : List Value → List Value → List Value} {gV : List V → List V → List V}
theorem pe_k {v : V} {x : Str} {pos : Pos} (hg : Gl X x) (h : ∃ u, X.mg x = some u ∧ RelV v u) (hd : (x == ("__debug__" : Str)) = false := by decide) : PE X (.Name x pos) (tC v) :=
  let ⟨_, h1, h2⟩ := h
  pe_glob hg h1 h2 hd
theorem pe_d (D : Df X.prog X.w X.K X.mg X.base CX k x f fd ps sp) (hc : Clean X.A) (hr : Room k X.A) (hg : Gl X x) (hx : ∀ σ, PassesAt CX X σ (E σ)) (ha : PA X (e :: es) t) (hdb : (x == ("__debug__" : Str)) = false := by decide)
    (he : starEach (e :: es) X.env = (false, eval e X.env) :: starEach es X.env := by rfl) (hpl : (backTo pos (starEach es X.env)).any (·.1) = false := by rfl) :
    PE X (.Call (.Name x p) (e :: es) [] pos) (tCallG sp [] E t) := pe_c D.G hc hr hg D.m D.kp D.b .nil hx ha hdb he hpl
theorem pe_d0 (D : Df X.prog X.w X.K X.mg X.base CX k x f fd ps sp) (hc : Clean X.A) (hr : Room k X.A) (hg : Gl X x) (hx : ∀ σ, PassesAt CX X σ (E σ)) (hdb : (x == ("__debug__" : Str)) = false := by decide) :
    PE X (.Call (.Name x p) [] [] pos) (tCallG sp [] E tNil) := pe_c0 D.G hc hr hg D.m D.kp D.b .nil hx hdb
/-- with defaults -/
structure Dd (P : Program) (w : World) (K : PySem.W.Frag) (mg : Str → Option Value) (base : Heap) (CX : CXT) (k : Nat) (x : Str) (f : Addr) (fd : FuncData) (ps : List Str) (dvs : List V) (sp : Sp) : Prop where
  G : FnG P w K mg base CX k f fd ps sp
  m : mg x = some (.ref f)
  kp : PySem.W.keepIn K (.ref f) = true
  b : ∃ ds, Vals dvs ds ∧ Binds K fd ps ds
theorem pe_dd {dvs : List V} (D : Dd X.prog X.w X.K X.mg X.base CX k x f fd ps dvs sp) (hc : Clean X.A) (hr : Room k X.A) (hg : Gl X x) (hx : ∀ σ, PassesAt CX X σ (E σ)) (ha : PA X (e :: es) t) (hdb : (x == ("__debug__" : Str)) = false := by decide)
    (he : starEach (e :: es) X.env = (false, eval e X.env) :: starEach es X.env := by rfl) (hpl : (backTo pos (starEach es X.env)).any (·.1) = false := by rfl) :
    PE X (.Call (.Name x p) (e :: es) [] pos) (tCallG sp dvs E t) :=
  let ⟨_, hd, hb⟩ := D.b
  pe_c D.G hc hr hg D.m D.kp hb hd hx ha hdb he hpl
/-- called with keywords -/
structure Dk (P : Program) (w : World) (K : PySem.W.Frag) (mg : Str → Option Value) (base : Heap) (CX : CXT) (k : Nat) (x : Str) (f : Addr) (fd : FuncData) (ps : List Str) (sp : Sp) (n : Nat) (ks : List Str) (gV : List V → List V → List V) : Prop where
  G : FnG P w K mg base CX k f fd ps sp
  m : mg x = some (.ref f)
  kp : PySem.W.keepIn K (.ref f) = true
  b : ∃ g, KBn K fd ps n ks g gV
theorem pe_dk (D : Dk X.prog X.w X.K X.mg X.base CX k x f fd ps sp n ks gV) (hc : Clean X.A) (hr : Room k X.A) (hg : Gl X x) (hx : ∀ σ, PassesAt CX X σ (E σ)) (ha : PA X (e :: es) t) (hkw : PK X kws tk)
    (hall : (backToKw pos (keywordEach kws X.env)).all (·.1.isSome) = true := by rfl) (hks : (backToKw pos (keywordEach kws X.env)).filterMap (·.1) = ks := by rfl) (hdb : (x == ("__debug__" : Str)) = false := by decide)
    (he : starEach (e :: es) X.env = (false, eval e X.env) :: starEach es X.env := by rfl)
    (hpl : ((backTo pos (starEach (e :: es) X.env)).any (·.1) || (backToKw pos (keywordEach kws X.env)).any (·.1.isNone)) = false := by rfl) :
    PE X (.Call (.Name x p) (e :: es) kws pos) (tCallH n ks.length sp gV E t tk) :=
  let ⟨_, hb⟩ := D.b
  pe_h D.G hc hr hg D.m D.kp hb hx ha hkw hall hks hdb he hpl
theorem pe_dk0 (D : Dk X.prog X.w X.K X.mg X.base CX k x f fd ps sp 0 ks gV) (hc : Clean X.A) (hr : Room k X.A) (hg : Gl X x) (hx : ∀ σ, PassesAt CX X σ (E σ)) (hkw : PK X kws tk)
    (hall : (backToKw pos (keywordEach kws X.env)).all (·.1.isSome) = true := by rfl) (hks : (backToKw pos (keywordEach kws X.env)).filterMap (·.1) = ks := by rfl) (hdb : (x == ("__debug__" : Str)) = false := by decide)
    (hpl : ((backTo pos (starEach [] X.env)).any (·.1) || (backToKw pos (keywordEach kws X.env)).any (·.1.isNone)) = false := by rfl) :
    PE X (.Call (.Name x p) [] kws pos) (tCallH 0 ks.length sp gV E tNil tk) :=
  let ⟨_, hb⟩ := D.b
  pe_h0 D.G hc hr hg D.m D.kp hb hx hkw hall hks hdb hpl
end
/-! ### is True, is not False -/
section
variable {X : Cx}
theorem rel_bl {x : V} {u : Value} {b : Bool} (r : RelV x u) (h : x ≠ .bl b) : u ≠ Value.bool b := by
  intro e
  subst e
  cases x with
  | bl c =>
    have : Value.bool b = Value.bool c := r
    cases this
    exact h rfl
  | non => exact nomatch (r : Value.bool b = Value.none)
  | int _ => obtain ⟨_, q⟩ := r; exact nomatch q
  | str _ => obtain ⟨_, q⟩ := r; exact nomatch q
  | byt _ => obtain ⟨_, q⟩ := r; exact nomatch q
  | flt _ => obtain ⟨_, q⟩ := r; exact nomatch q
  | ref a => exact nomatch (r : Value.bool b = Value.ref a)
  | ty n => exact nomatch (r : Value.bool b = Value.type n)
theorem plain_bl {x : V} {u : Value} {b : Bool} (r : RelV x u) : plainIs u (Value.bool b) = true := by
  cases x with
  | bl c => cases (show u = Value.bool c from r); rfl
  | non => cases (show u = Value.none from r); rfl
  | int _ => obtain ⟨_, q⟩ := r; subst q; rfl
  | str _ => obtain ⟨_, q⟩ := r; subst q; rfl
  | byt _ => obtain ⟨_, q⟩ := r; subst q; rfl
  | flt _ => obtain ⟨_, q⟩ := r; subst q; rfl
  | ref a => cases (show u = Value.ref a from r); rfl
  | ty n => cases (show u = Value.type n from r); rfl
theorem op_isB : OpR X (compareOp .Is) (fun x y H Q => ∃ b, y = .bl b ∧ Q (.bl (decide (x = .bl b))) H) := by
  intro pins s σ H x y v u Q I rx ry h
  obtain ⟨b, rfl, q⟩ := h
  cases (show u = Value.bool b from ry)
  by_cases e : x = .bl b
  · subst e
    cases (show v = Value.bool b from rx)
    exact wpAny_is_self rfl ⟨.bl true, H, I, rfl, by simpa using q⟩
  · exact wpAny_is_other (plain_bl rx) (rel_bl rx e) ⟨.bl false, H, I, rfl, by simpa [e] using q⟩
theorem op_notB : OpR X (compareOp .IsNot) (fun x y H Q => ∃ b, y = .bl b ∧ Q (.bl (!decide (x = .bl b))) H) := by
  intro pins s σ H x y v u Q I rx ry h
  obtain ⟨b, rfl, q⟩ := h
  cases (show u = Value.bool b from ry)
  by_cases e : x = .bl b
  · subst e
    cases (show v = Value.bool b from rx)
    exact wpAny_isNot_self rfl ⟨.bl false, H, I, rfl, by simpa using q⟩
  · exact wpAny_isNot_other (plain_bl rx) (rel_bl rx e) ⟨.bl true, H, I, rfl, by simpa [e] using q⟩
/-! ### s * n -/
def repS (x : Str) (n : Int) : Str := ⟨(List.replicate n.toNat x.cps).foldl (· ++ ·) #[]⟩
theorem fold_app (c : Array Nat) : ∀ (n : Nat) (a : Array Nat), ((List.replicate n c).foldl (· ++ ·) a).toList = a.toList ++ (List.replicate n c.toList).flatten
  | 0, a => by simp
  | n + 1, a => by
    rw [List.replicate_succ, List.foldl_cons, fold_app c n (a ++ c), List.replicate_succ, List.flatten_cons, Array.toList_append, List.append_assoc]
theorem repS_list (x : Str) (n : Int) : (repS x n).cps.toList = (List.replicate n.toNat x.cps.toList).flatten := by
  show ((List.replicate n.toNat x.cps).foldl (· ++ ·) #[]).toList = _
  rw [fold_app]
  rfl
theorem op_repS : OpR X (binaryOp .Mult) (fun x y H Q => ∃ z n, x = .str z ∧ y = .int n ∧ 1 < n ∧ n < 1000000 ∧ z.length ≠ 0 ∧ z.length * n.toNat ≤ sizeLine ∧ Q (.str (repS z n)) H) := by
  intro pins s σ H x y v u Q I rx ry h
  obtain ⟨z, n, rfl, rfl, h1, h2, h0, hz, q⟩ := h
  obtain ⟨t, rfl⟩ := rx
  obtain ⟨t', rfl⟩ := ry
  have e1 : (n == 1 || z.length == 0) = false := by
    rw [Bool.or_eq_false_iff]
    exact ⟨beq_eq_false_iff_ne.mpr (by omega), beq_eq_false_iff_ne.mpr h0⟩
  have hb : ¬ (z.length : Int) > (2 ^ 63 - 1) / n := by
    intro c
    have hs := hz
    rw [sizeLine_eq] at hs
    have h3 : (z.length : Int) * n ≤ 16777216 := by
      have h4 : ((z.length * n.toNat : Nat) : Int) ≤ 16777216 := Int.ofNat_le.mpr hs
      rw [Int.natCast_mul, Int.toNat_of_nonneg (by omega)] at h4
      exact h4
    have h5 : (z.length : Int) ≤ 16777216 := by
      have h6 : (1 : Int) ≤ z.length := by omega
      have h7 : (z.length : Int) * 1 ≤ (z.length : Int) * n := Int.mul_le_mul_of_nonneg_left (by omega) (by omega)
      omega
    have h8 : (2 ^ 63 - 1 : Int) / n ≥ (2 ^ 63 - 1) / 1000000 := by
      have : (2 ^ 63 - 1 : Int) / 1000000 * n ≤ (2 ^ 63 - 1) := by
        have h9 : (2 ^ 63 - 1 : Int) / 1000000 = 9223372036854 := by decide
        rw [h9]
        omega
      exact (Int.le_ediv_iff_mul_le (by omega)).mpr this
    have h10 : (2 ^ 63 - 1 : Int) / 1000000 = 9223372036854 := by decide
    omega
  refine PySem.P.mul_str (by rw [Bool.or_eq_false_iff]; exact ⟨decide_eq_false (by omega), decide_eq_false (by omega)⟩) (fun _ _ => hb) (fun _ _ => ?_) ?_
  · unfold Builtin.Str.tooLong
    exact decide_eq_false (by omega)
  · rw [if_neg (by omega), if_neg (by rw [e1]; exact Bool.false_ne_true)]
    have hl : (repS z n).length ≤ sizeLine := by
      have e : (repS z n).length = z.length * n.toNat := by
        show (repS z n).cps.size = _
        rw [← Array.length_toList, repS_list, List.length_flatten, List.map_replicate, List.sum_replicate_nat]
        show n.toNat * z.cps.toList.length = _
        rw [Array.length_toList, Nat.mul_comm]
        rfl
      omega
    exact ⟨hl, ⟨.str (repS z n), H, I.tok _, ⟨_, rfl⟩, q⟩⟩
end
end Gd

namespace Gd
open PySem PySem.Spec PyProof.Rows L2
/-! ### the kind of a value -/
inductive Kind where
  | non | bl | int | str | lst | tup | dct | odd
  deriving DecidableEq
def Kind.name : Kind → String
  | .non => "NoneType"
  | .bl => "bool"
  | .int => "int"
  | .str => "str"
  | .lst => "list"
  | .tup => "tuple"
  | .dct => "dict"
  | .odd => "?"
def kindO : Option HO → Kind
  | some (.lst _) => .lst
  | some (.tup _) => .tup
  | some (.dK _) => .dct
  | _ => .odd
def kind (H : Hp) : V → Kind
  | .non => .non
  | .bl _ => .bl
  | .int _ => .int
  | .str _ => .str
  | .ref a => kindO (H a)
  | _ => .odd
abbrev Pv (H : Hp) (v : V) : Prop := kind H v ≠ .odd
/-- isinstance of such a value -/
def inst (n : String) (k : Kind) : Bool := k.name == n || (n == "int" && k == .bl)
theorem kind_ty {K : PySem.W.Frag} {H : Hp} {v : V} (h : Pv H v) : TyX K H v (.type (kind H v).name) := by
  cases v with
  | non => exact .base .non
  | bl b => exact .base (.bl b)
  | int i => exact .base (.int i)
  | str x => exact .base (.str x)
  | byt b => exact absurd rfl h
  | flt b => exact absurd rfl h
  | ty n => exact absurd rfl h
  | ref a =>
    change kindO (H a) ≠ .odd at h
    show TyX K H (.ref a) (.type (kindO (H a)).name)
    cases e : H a with
    | none => rw [e] at h; exact absurd rfl h
    | some o =>
      rw [e] at h
      cases o with
      | lst xs => exact .base (.lst e)
      | tup xs => exact .base (.tup e)
      | dK kvs => exact .base (.dK e)
      | _ => exact absurd rfl h
abbrev Cn (n : String) : Prop := n = "int" ∨ n = "str" ∨ n = "bool" ∨ n = "list" ∨ n = "tuple" ∨ n = "dict"
theorem kit_kind {K : PySem.W.Frag} {H : Hp} {v : V} (h : Pv H v) {n : String} (hn : Cn n) : PySem.W.kitOne K (.type (kind H v).name) (.type n) = some (inst n (kind H v)) := by
  apply kit_ty
  revert h
  unfold Pv
  generalize kind H v = k
  intro h
  rcases hn with rfl | rfl | rfl | rfl | rfl | rfl <;> cases k <;> first | exact absurd rfl h | decide +kernel
section
variable {X : Cx}
theorem call_isk : CallR X (.builtin "isinstance") (fun xs H Q => ∃ x n, xs = [x, .ty n] ∧ Cn n ∧ Pv H x ∧ Q (.bl (inst n (kind H x))) H) := by
  intro pins s σ H xs us Q I r h
  obtain ⟨x, n, rfl, hn, hv, q⟩ := h
  exact call_isi pins s σ H _ us Q I r ⟨x, .ty n, _, _, _, rfl, .ty n, kind_ty hv, kit_kind hv hn, q⟩
/-- (list, tuple) and its like -/
theorem call_isk2 : CallR X (.builtin "isinstance") (fun xs H Q => ∃ x t n m, xs = [x, .ref t] ∧ H t = some (.tup [.ty n, .ty m]) ∧ Cn n ∧ Cn m ∧ Pv H x ∧ Q (.bl (inst n (kind H x) || inst m (kind H x))) H) := by
  intro pins s σ H xs us Q I r h
  obtain ⟨x, t, n, m, rfl, ht, hn, hm, hv, q⟩ := h
  refine call_isiT pins s σ H _ us Q I r ⟨x, t, [.ty n, .ty m], _, [.type n, .type m], _, rfl, ht, .cons (.ty n) (.cons (.ty m) .nil), kind_ty hv, ?_, q⟩
  refine kitAny_cons (kit_kind hv hn) (fun e1 => ?_) (fun e1 => ?_)
  · rw [e1, Bool.false_or]
    exact kitAny_cons (kit_kind hv hm) (fun e2 => by rw [e2]; exact kitAny_nil) fun e2 => e2
  · rw [e1]
    rfl
end
/-- an int other than True and False -/
def isInt : V → Bool
  | .int _ => true
  | _ => false
def isStr : V → Bool
  | .str _ => true
  | _ => false
theorem kind_ref {H : Hp} {a : Addr} : kind H (.ref a) = .lst ∨ kind H (.ref a) = .tup ∨ kind H (.ref a) = .dct ∨ kind H (.ref a) = .odd := by
  show kindO (H a) = _ ∨ kindO (H a) = _ ∨ kindO (H a) = _ ∨ kindO (H a) = _
  cases H a with
  | none => exact .inr (.inr (.inr rfl))
  | some o =>
    cases o <;> first | exact .inl rfl | exact .inr (.inl rfl) | exact .inr (.inr (.inl rfl)) | exact .inr (.inr (.inr rfl))
theorem isInt_kind (H : Hp) (v : V) : (inst "int" (kind H v) && !inst "bool" (kind H v)) = isInt v := by
  cases v with
  | ref a =>
    show _ = false
    rcases kind_ref (H := H) (a := a) with e | e | e | e <;> rw [e] <;> decide +kernel
  | _ => rfl
theorem isStr_kind (H : Hp) (v : V) : inst "str" (kind H v) = isStr v := by
  cases v with
  | ref a =>
    show _ = false
    rcases kind_ref (H := H) (a := a) with e | e | e | e <;> rw [e] <;> decide +kernel
  | _ => rfl
theorem kind_same {H H' : Hp} (e : Same H H') {v : V} (h : Pv H v) : kind H' v = kind H v := by
  cases v with
  | ref a =>
    change kindO (H a) ≠ .odd at h
    show kindO (H' a) = kindO (H a)
    cases q : H a with
    | none => rw [q] at h; exact absurd rfl h
    | some o => rw [e a o q]
  | _ => rfl
theorem Pv.same {H H' : Hp} (e : Same H H') {v : V} (h : Pv H v) : Pv H' v := by
  unfold Pv
  rw [kind_same e h]
  exact h
theorem isStr_iff {v : V} (h : isStr v = true) : ∃ x, v = .str x := by
  cases v <;> first | exact ⟨_, rfl⟩ | exact absurd h Bool.false_ne_true
theorem isInt_iff {v : V} (h : isInt v = true) : ∃ x, v = .int x := by
  cases v <;> first | exact ⟨_, rfl⟩ | exact absurd h Bool.false_ne_true
end Gd

namespace Gd
open PySem L2
/-! ### the law's pool of digits -/
/-- it stands at p -/
def BoxAt (H : Hp) (p : Addr) : Prop := ∃ a b c : Int, H p = some (.lst [.int a, .int b, .int c]) ∧ 0 ≤ b ∧ b < 2147483647
/-- it may have turned, nothing else has -/
def Turned (H H' : Hp) (p : Addr) : Prop := BoxAt H' p ∧ ∀ q, q ≠ p → H' q = H q
theorem Turned.refl {H : Hp} {p : Addr} (b : BoxAt H p) : Turned H H p := ⟨b, fun _ _ => rfl⟩
theorem Turned.trans {H H1 H2 : Hp} {p : Addr} (a : Turned H H1 p) (b : Turned H1 H2 p) : Turned H H2 p := ⟨b.1, fun q hq => (b.2 q hq).trans (a.2 q hq)⟩
theorem Turned.box {H H' : Hp} {p : Addr} (t : Turned H H' p) : BoxAt H' p := t.1
theorem Turned.at {H H' : Hp} {p q : Addr} {o : HO} (t : Turned H H' p) (hq : q ≠ p) (h : H q = some o) : H' q = some o := (t.2 q hq).trans h
theorem turned_upd {H : Hp} {p : Addr} {a b c : Int} (h0 : 0 ≤ b) (h1 : b < 2147483647) : Turned H (upd H p (.lst [.int a, .int b, .int c])) p :=
  ⟨⟨a, b, c, upd_same, h0, h1⟩, fun q hq => upd_ne hq⟩
theorem BoxAt.some {H : Hp} {p : Addr} (b : BoxAt H p) : ∃ o, H p = some o := let ⟨_, _, _, h, _⟩ := b; ⟨_, h⟩
theorem BoxAt.upd {H : Hp} {p q : Addr} {o : HO} (b : BoxAt H p) (hq : H q = none) : BoxAt (upd H q o) p := by
  obtain ⟨x, y, z, h, r⟩ := b
  exact ⟨x, y, z, by rw [upd_ne (ne_of_none h hq)]; exact h, r⟩
def spScr (K : PySem.W.Frag) : Sp := fun vs H Q _ => ∃ (a : Addr) (ns : List Int) (k : Int), vs = [.ref a, .int k] ∧ SqL K H a (ns.map V.int) ∧ 0 ≤ k ∧ k < 1000 ∧ ∀ z, Q (.int z) H
def spBox : Sp := fun vs H Q _ => ∃ z : Int, vs = [.int z] ∧ ∀ (p : Addr) (o : HO), H p = none → BoxAt (upd H p o) p → Q (.ref p) (upd H p o)
def spTake : Sp := fun vs H Q _ => ∃ (p : Addr) (n : Int), vs = [.ref p, .int n] ∧ BoxAt H p ∧ 0 < n ∧ n < 1000000 ∧ ∀ (d : Int) (H' : Hp), 0 ≤ d → d < n → Turned H H' p → Q (.int d) H'
/-- an item of the script -/
theorem at_script {ns : List Int} {k : Int} (h0 : 0 ≤ k) (h1 : k < ns.length) : ∃ z, atI (ns.map V.int) k = some (.int z) := by
  obtain ⟨j, rfl⟩ := Int.eq_ofNat_of_zero_le h0
  have hj : j < ns.length := by omega
  refine ⟨ns[j], atI_nat ?_⟩
  rw [List.getElem?_map, List.getElem?_eq_getElem hj]
  rfl
theorem mod_pos {i j : Int} (h : 0 < j) : 0 ≤ i % j ∧ i % j < j := ⟨Int.emod_nonneg _ (by omega), Int.emod_lt_of_pos _ h⟩
end Gd

namespace Gd
open PySem L2
theorem iteB {c : Bool} {A B : Prop} (h1 : c = true → A) (h2 : c = false → B) : if c = true then A else B := by
  cases c with
  | true => exact iteT (h1 rfl)
  | false => exact iteF (h2 rfl)
/-- what a comprehension over J asks, its list at D -/
def LcW (J : It) (g : TG) (tt : TT) (te : TE) (vs : List Nat) (σ : L2.St) (H1 : Hp) (D : Addr) (Qd : Hp → Prop) : Prop :=
  ∃ W : Nat → Nat → Hp → Prop, (∃ m, W 0 m (upd H1 D (.lst []))) ∧ ∀ i m H, W i m H →
    (J.stop i H ∧ Qd H) ∨ (J.go i H ∧ ∃ Nx : Hp → Prop, (∀ H', Nx H' → ∃ m', m' < m ∧ W (i + 1) m' H') ∧ ∀ x H', J.yld i H x H' →
      g x (wipe σ vs) H' fun σ2 H2 => wipe σ2 vs = wipe σ vs ∧ tt σ2 H2 fun b H3 => if b = true then te σ2 H3 fun y H4 => ∃ acc, H4 D = some (.lst acc) ∧ acc.length < sizeLine ∧ Nx (upd H4 D (.lst (acc ++ [y]))) else Nx H3)
theorem wipe1 (σ : L2.St) (j : Nat) (v : Option V) : wipe ((wipe σ [j]).set j v) [j] = wipe σ [j] := by
  show ((σ.set j none).set j v).set j none = σ.set j none
  rw [List.set_set, List.set_set]
theorem take_snoc {α : Type} {l : List α} {i : Nat} {x : α} (h : l[i]? = some x) : l.take (i + 1) = l.take i ++ [x] := by
  rw [List.take_succ, h]
  rfl
section
variable {K : PySem.W.Frag} {tt : TT} {te : TE} {j : Nat} {σ : L2.St} {H1 : Hp} {D : Addr} {Qd : Hp → Prop}
/-- over a text, all else as it stood -/
theorem lc_text {z : Str} (f : Nat → V) (p : Nat → Bool) (hz : z.length < sizeLine)
    (ht : ∀ c acc (Q : Bool → Hp → Prop), c ∈ z.cps.toList → Q (p c) (upd H1 D (.lst acc)) → tt ((wipe σ [j]).set j (some (.str ⟨#[c]⟩))) (upd H1 D (.lst acc)) Q)
    (he : ∀ c acc (Q : VK), c ∈ z.cps.toList → p c = true → Q (f c) (upd H1 D (.lst acc)) → te ((wipe σ [j]).set j (some (.str ⟨#[c]⟩))) (upd H1 D (.lst acc)) Q)
    (hd : Qd (upd H1 D (.lst ((z.cps.toList.filter p).map f)))) : LcW (Its z) (gName j) tt te [j] σ H1 D Qd := by
  have hl : z.cps.toList.length = z.cps.size := Array.length_toList
  refine lc_it walk_str (fun i H => H = upd H1 D (.lst (((z.cps.toList.take i).filter p).map f))) rfl (fun _ _ _ _ => trivial) ?_ ?_
  · rintro i x H H' hi e ⟨e', c, hc, rfl⟩
    subst e'
    have hc' : z.cps.toList[i]? = some c := by rw [Array.getElem?_toList]; exact hc
    have hm : c ∈ z.cps.toList := List.mem_of_getElem? hc'
    show gName j _ (wipe σ [j]) H' _
    refine ⟨wipe1 _ _ _, ?_⟩
    rw [e]
    refine ht c _ _ hm ?_
    have es := take_snoc hc'
    refine iteB (fun b => ?_) (fun b => ?_)
    · refine he c _ _ hm b ⟨_, upd_same, ?_, ?_⟩
      · rw [List.length_map]
        refine Nat.lt_of_le_of_lt (List.length_filter_le _ _) ?_
        rw [List.length_take]
        have : z.length = z.cps.size := rfl
        omega
      · rw [upd_upd, es, List.filter_append, List.map_append]
        have e1 : [c].filter p = [c] := by rw [List.filter_cons, if_pos b]; rfl
        rw [e1]
        rfl
    · rw [es, List.filter_append, List.map_append]
      have e1 : [c].filter p = [] := by rw [List.filter_cons, if_neg (by rw [b]; exact Bool.false_ne_true)]; rfl
      rw [e1]
      show upd H1 D _ = _
      rw [List.map_nil, List.append_nil]
  · intro H e
    subst e
    rw [← hl, List.take_length]
    exact hd
end
/-- order of single signs -/
theorem lt_sign (a b : Nat) : decide (([a] : List Nat) < [b]) = decide (a < b) := by
  by_cases h : a < b
  · rw [decide_eq_true h]
    exact decide_eq_true (List.Lex.rel h)
  · rw [decide_eq_false h]
    refine decide_eq_false fun z => ?_
    cases z with
    | rel h' => exact h h'
    | cons h' => cases h'
end Gd

namespace Gd
open PySem L2
/-! ### plain texts of a size -/
structure Tx (n : Nat) (x : Str) : Prop where
  len : x.length ≤ n
  asc : ∀ c ∈ x.cps.toList, c < 128
theorem len_list (x : Str) : x.length = x.cps.toList.length := (Array.length_toList).symm
theorem Tx.mono {n m : Nat} {x : Str} (t : Tx n x) (h : n ≤ m) : Tx m x := ⟨Nat.le_trans t.len h, t.asc⟩
theorem app_list (x y : Str) : (x ++ y).cps.toList = x.cps.toList ++ y.cps.toList := Array.toList_append
theorem Tx.app {n m : Nat} {x y : Str} (t : Tx n x) (u : Tx m y) : Tx (n + m) (x ++ y) := by
  refine ⟨?_, fun c hc => ?_⟩
  · have := t.len
    have := u.len
    rw [len_list, app_list, List.length_append, ← len_list, ← len_list]
    omega
  · rw [app_list] at hc
    rcases List.mem_append.mp hc with h | h
    · exact t.asc c h
    · exact u.asc c h
theorem cut_mem {z : Str} {lo hi : Option Int} {c : Nat} (h : c ∈ (cutS z lo hi).cps.toList) : c ∈ z.cps.toList := by
  have h' : c ∈ (z.cps.toList.drop (HT.sIx z.length 0 lo)).take (HT.sIx z.length z.length hi - HT.sIx z.length 0 lo) := h
  exact List.mem_of_mem_drop (List.mem_of_mem_take h')
theorem Tx.cut {n : Nat} {z : Str} (t : Tx n z) (lo hi : Option Int) : Tx n (cutS z lo hi) := ⟨Nat.le_trans (cutS_length z lo hi) t.len, fun c hc => t.asc c (cut_mem hc)⟩
theorem Tx.sign {n : Nat} {z : Str} (t : Tx n z) {c : Nat} (h : c ∈ z.cps.toList) : Tx 1 ⟨#[c]⟩ := ⟨Nat.le_refl _, fun d hd => by
  have : d = c := by simpa using hd
  rw [this]
  exact t.asc c h⟩
/-- a written one: by decide +kernel -/
theorem Tx.of {n : Nat} {x : Str} (h : (decide (x.length ≤ n) && x.cps.toList.all fun c => decide (c < 128)) = true) : Tx n x := by
  rw [Bool.and_eq_true, decide_eq_true_eq, List.all_eq_true] at h
  exact ⟨h.1, fun c hc => of_decide_eq_true (h.2 c hc)⟩
theorem Tx.big {n : Nat} {x : Str} (t : Tx n x) : ∀ c ∈ x.cps.toList, c < 16 ^ 8 := fun c hc => Nat.lt_trans (t.asc c hc) (by decide)
theorem atI_mem {α : Type} {l : List α} {i : Int} {v : α} (h : atI l i = some v) : v ∈ l := by
  unfold atI at h
  cases e : ixN l.length i with
  | none => rw [e] at h; exact nomatch h
  | some j =>
    rw [e] at h
    exact List.mem_of_getElem? h
/-- an item that all of them are like -/
theorem atI_all {α : Type} {l : List α} {p : α → Prop} (h : ∀ v ∈ l, p v) {d : Int} (h0 : 0 ≤ d) (h1 : d < l.length) : ∃ v, atI l d = some v ∧ p v := by
  obtain ⟨j, rfl⟩ := Int.eq_ofNat_of_zero_le h0
  have hj : j < l.length := by omega
  exact ⟨l[j], atI_nat (List.getElem?_eq_getElem hj), h _ (List.getElem_mem hj)⟩
/-- a sign of a text -/
theorem atI_sign {n : Nat} {z : Str} (t : Tx n z) {d : Int} (h0 : 0 ≤ d) (h1 : d < z.length) : ∃ c, atI z.cps.toList d = some c ∧ Tx 1 ⟨#[c]⟩ ∧ c ∈ z.cps.toList := by
  obtain ⟨c, h, hm⟩ := atI_all (l := z.cps.toList) (p := fun c => c ∈ z.cps.toList) (fun _ h => h) h0 (by rw [← len_list]; exact h1)
  exact ⟨c, h, t.sign hm, hm⟩
/-! ### parts and equality of texts -/
theorem str_ext {x y : Str} (h : x.cps.toList = y.cps.toList) : x = y := by
  obtain ⟨a⟩ := x
  obtain ⟨b⟩ := y
  exact congrArg Str.mk (Array.toList_inj.mp h)
theorem str_eq (x y : Str) : decide (V.str x = V.str y) = decide (x.cps.toList = y.cps.toList) :=
  decide_eq_decide.mpr ⟨fun z => by rw [V.str.injEq] at z; rw [z], fun z => by rw [str_ext z]⟩
theorem cut_take (x : Str) (k : Nat) : (cutS x none (some (k : Int))).cps.toList = x.cps.toList.take k := by
  show (x.cps.toList.drop (HT.sIx x.length 0 none)).take (HT.sIx x.length x.length (some (k : Int)) - HT.sIx x.length 0 none) = _
  rw [HT.sIx_none, HT.sIx_nat, List.drop_zero, Nat.sub_zero, len_list]
  rcases Nat.le_total k x.cps.toList.length with h | h
  · rw [Nat.min_eq_left h]
  · rw [Nat.min_eq_right h, List.take_length, List.take_of_length_le h]
theorem cut_drop (x : Str) (k : Nat) : (cutS x (some (k : Int)) none).cps.toList = x.cps.toList.drop k := by
  show (x.cps.toList.drop (HT.sIx x.length 0 (some (k : Int)))).take (HT.sIx x.length x.length none - HT.sIx x.length 0 (some (k : Int))) = _
  rw [HT.sIx_none, HT.sIx_nat, len_list]
  rcases Nat.le_total k x.cps.toList.length with h | h
  · rw [Nat.min_eq_left h, List.take_of_length_le (by rw [List.length_drop]; exact Nat.le_refl _)]
  · rw [Nat.min_eq_right h, Nat.sub_self, List.take_zero, List.drop_of_length_le h]
/-! ### joined -/
theorem join_str (sep : Str) (l : List Str) : Txt.join sep l = Str.join sep l := eq_of_beq (PyProof.Rows.join_plain_closes sep l)
theorem join_len (sep : Str) : ∀ l : List Str, (Str.join sep l).length ≤ (l.map (·.length)).sum + l.length * sep.length
  | [] => Nat.zero_le _
  | [x] => by
    show x.length ≤ _
    simp
  | x :: y :: r => by
    have ih := join_len sep (y :: r)
    show (x ++ sep ++ Str.join sep (y :: r)).length ≤ _
    rw [len_list, app_list, app_list, List.length_append, List.length_append, ← len_list, ← len_list, ← len_list, List.map_cons, List.sum_cons, List.length_cons, Nat.succ_mul]
    omega
theorem join_mem (sep : Str) {c : Nat} : ∀ {l : List Str}, c ∈ (Str.join sep l).cps.toList → c ∈ sep.cps.toList ∨ ∃ y ∈ l, c ∈ y.cps.toList
  | [], h => nomatch (show c ∈ ([] : List Nat) from h)
  | [x], h => .inr ⟨x, List.mem_cons_self, h⟩
  | x :: y :: r, h => by
    have h' : c ∈ (x ++ sep ++ Str.join sep (y :: r)).cps.toList := h
    rw [app_list, app_list, List.mem_append, List.mem_append] at h'
    rcases h' with (h | h) | h
    · exact .inr ⟨x, List.mem_cons_self, h⟩
    · exact .inl h
    · rcases join_mem sep h with h | ⟨z, hz, h⟩
      · exact .inl h
      · exact .inr ⟨z, List.mem_cons_of_mem _ hz, h⟩
theorem join_empty_len : ∀ l : List Str, (Str.join "" l).length = (l.map (·.length)).sum
  | [] => rfl
  | [x] => by
    show x.length = _
    simp
  | x :: y :: r => by
    have ih := join_empty_len (y :: r)
    show (x ++ "" ++ Str.join "" (y :: r)).length = _
    have e : (("" : String) : Str).cps.toList = [] := by decide +kernel
    rw [len_list, app_list, app_list, e, List.append_nil, List.length_append, ← len_list, ← len_list, List.map_cons, List.sum_cons, ih]
theorem sum_le {l : List Nat} {n : Nat} (h : ∀ x ∈ l, x ≤ n) : l.sum ≤ l.length * n := by
  induction l with
  | nil => exact Nat.zero_le _
  | cons a l ih =>
    have := ih fun x hx => h x (List.mem_cons_of_mem _ hx)
    have := h a List.mem_cons_self
    rw [List.sum_cons, List.length_cons, Nat.succ_mul]
    omega
theorem Tx.join {n m k : Nat} {sep : Str} {l : List Str} (s : Tx m sep) (h : ∀ y ∈ l, Tx n y) (hl : l.length ≤ k) : Tx (k * n + k * m) (Txt.join sep l) := by
  rw [join_str]
  refine ⟨?_, fun c hc => ?_⟩
  · have h1 := join_len sep l
    have h2 : (l.map (·.length)).sum ≤ l.length * n := by
      have := sum_le (l := l.map (·.length)) (n := n) fun x hx => by
        obtain ⟨y, hy, rfl⟩ := List.mem_map.mp hx
        exact (h y hy).len
      rw [List.length_map] at this
      exact this
    have h3 : l.length * n ≤ k * n := Nat.mul_le_mul_right _ hl
    have h4 : l.length * sep.length ≤ k * m := Nat.mul_le_mul hl s.len
    omega
  · rcases join_mem sep hc with h' | ⟨y, hy, h'⟩
    · exact s.asc c h'
    · exact (h y hy).asc c h'
/-! ### all but the pool is kept -/
def Kept (H H' : Hp) (p : Addr) : Prop := BoxAt H' p ∧ ∀ q o, q ≠ p → H q = some o → H' q = some o
theorem Kept.refl {H : Hp} {p : Addr} (b : BoxAt H p) : Kept H H p := ⟨b, fun _ _ _ h => h⟩
theorem Kept.trans {H H1 H2 : Hp} {p : Addr} (a : Kept H H1 p) (b : Kept H1 H2 p) : Kept H H2 p := ⟨b.1, fun q o hq h => b.2 q o hq (a.2 q o hq h)⟩
theorem Kept.box {H H' : Hp} {p : Addr} (k : Kept H H' p) : BoxAt H' p := k.1
theorem Turned.kept {H H' : Hp} {p : Addr} (t : Turned H H' p) : Kept H H' p := ⟨t.1, fun q o hq h => t.at hq h⟩
theorem Kept.new {H H' : Hp} {p l : Addr} {o : HO} (k : Kept H H' p) (h : H' l = none) : Kept H (upd H' l o) p :=
  ⟨k.1.upd h, fun q u hq hu => by rw [upd_ne (ne_of_none (k.2 q u hq hu) h)]; exact k.2 q u hq hu⟩
theorem Kept.turn {H H1 H2 : Hp} {p : Addr} (k : Kept H H1 p) (t : Turned H1 H2 p) : Kept H H2 p := k.trans t.kept
theorem Kept.same {H H1 H2 : Hp} {p : Addr} (k : Kept H H1 p) (s : Same H1 H2) : Kept H H2 p := by
  obtain ⟨⟨a, b, c, h, r⟩, f⟩ := k
  exact ⟨⟨a, b, c, s _ _ h, r⟩, fun q o hq hh => s _ _ (f q o hq hh)⟩
/-- fresh behind is fresh ahead -/
theorem Kept.free {H H' : Hp} {p q : Addr} (k : Kept H H' p) (hb : BoxAt H p) (h : H' q = none) : H q = none := by
  cases e : H q with
  | none => rfl
  | some o =>
    by_cases hq : q = p
    · subst hq
      obtain ⟨_, hh⟩ := k.1.some
      rw [hh] at h
      exact nomatch h
    · rw [k.2 q o hq e] at h
      exact nomatch h
theorem Kept.ne {H : Hp} {p q : Addr} (b : BoxAt H p) (h : H q = none) : q ≠ p := by
  rintro rfl
  obtain ⟨_, hh⟩ := b.some
  rw [hh] at h
  exact nomatch h
theorem Kept.put {H H' : Hp} {p D : Addr} {o : HO} (k : Kept H H' p) (hb : BoxAt H p) (h : H D = none) : Kept H (upd H' D o) p := by
  have hne : D ≠ p := Kept.ne hb h
  obtain ⟨⟨a, b, c, hh, r⟩, f⟩ := k
  exact ⟨⟨a, b, c, by rw [upd_ne hne.symm]; exact hh, r⟩, fun q u hq hu => by rw [upd_ne (ne_of_none hu h)]; exact f q u hq hu⟩
/-- no test: the turn gives -/
theorem yes_go {σ : L2.St} {H : Hp} {A B : Hp → Prop} (h : A H) : tYes σ H (fun b H' => if b = true then A H' else B H') := by
  show if true = true then A H else B H
  exact iteT h
/-! a word between a statement and what follows -/
def tMid (t u : TS) : TS := fun D σ H => ∃ M : L2.St → Hp → Prop, t { D with nx := M } σ H ∧ ∀ σ' H', M σ' H' → u D σ' H'
theorem pss_mid {X : Cx} {st : Stmt} {rest : List Stmt} {t u : TS} (h1 : PS X st t) (h2 : PSs X rest u) : PSs X (st :: rest) (tMid t u) := by
  refine ⟨fun pins s σ H D I ⟨M, hm, hu⟩ => ?_⟩
  refine wpAny_execs_cons (thn (h1.run pins s σ H { D with nx := M } I hm) fun f s1 q => ?_)
  match f, q with
  | .next, ⟨σ', H', I', q⟩ => exact h2.run pins s1 σ' H' D I' (hu σ' H' q)
  | .ret _, q => exact q
  | .brk, q => exact q
  | .cont, q => exact q
end Gd

namespace Gd
open PySem L2
/-- a list of signs == [] -/
theorem signs_nil {K : PySem.W.Frag} {H : Hp} {D D2 : Addr} {bs : List Nat} (h1 : H D = some (.lst (bs.map fun c => V.str ⟨#[c]⟩))) (h2 : H D2 = some (.lst [])) (asc : ∀ c ∈ bs, c < 128) {Q : VK} (q : Q (.bl bs.isEmpty) H) : rEqD K (.ref D) (.ref D2) H Q := by
  have dp : ∀ l : List Nat, DpAll K H (l.map fun c => V.str ⟨#[c]⟩) (l.map fun c => PyData.str ⟨#[c]⟩) := by
    intro l
    induction l with
    | nil => exact .nil
    | cons c l ih => exact .cons (.str _) ih
  have shp : ∀ l : List Nat, (∀ c ∈ l, c < 128) → SeqAt.shaped (.list (l.map fun c => PyData.str ⟨#[c]⟩)) = true := by
    intro l hl
    unfold SeqAt.shaped
    have h1 : ∀ l : List Nat, (∀ c ∈ l, c < 128) → PyData.canLayAll0 (l.map fun c => PyData.str ⟨#[c]⟩) = true := by
      intro l
      induction l with
      | nil => exact fun _ => rfl
      | cons c l ih =>
        intro h
        show (PyData.canLay0 (.str ⟨#[c]⟩) && PyData.canLayAll0 (l.map fun c => PyData.str ⟨#[c]⟩)) = true
        rw [ih fun x hx => h x (List.mem_cons_of_mem _ hx), Bool.and_true]
        show (#[c] : Array Nat).all (· < 0x110000) = true
        have := h c List.mem_cons_self
        simp
        omega
    have h2 : ∀ l : List Nat, PyData.depthAll (l.map fun c => PyData.str ⟨#[c]⟩) = 0 := by
      intro l
      induction l with
      | nil => rfl
      | cons c l ih =>
        show max 0 (PyData.depthAll (l.map fun c => PyData.str ⟨#[c]⟩)) = 0
        rw [ih]
        rfl
    rw [Bool.and_eq_true]
    refine ⟨h1 l hl, decide_eq_true ?_⟩
    show PyData.depthAll (l.map fun c => PyData.str ⟨#[c]⟩) + 1 ≤ 64
    rw [h2]
    decide
  refine ⟨.list (bs.map fun c => PyData.str ⟨#[c]⟩), .list [], .lst (SqL.of h1) (dp bs), .lst (SqL.of h2) .nil, shp bs asc, by decide, ?_⟩
  have eqv : PyData.eqv (.list (bs.map fun c => PyData.str ⟨#[c]⟩)) (.list []) = bs.isEmpty := by
    cases bs <;> rfl
  rw [eqv]
  exact q
/-! ### small letters -/
def low (c : Nat) : Bool := decide (97 ≤ c) && decide (c ≤ 122)
theorem low_fst (c : Nat) : (!decide ((({ cps := #[c] } : Str)).cps.toList < (("a" : String) : Str).cps.toList)) = decide (97 ≤ c) := by
  show (!decide (([c] : List Nat) < [97])) = _
  rw [lt_sign, ← decide_not]
  exact decide_eq_decide.mpr (by omega)
theorem low_snd (c : Nat) : (!decide ((("z" : String) : Str).cps.toList < (({ cps := #[c] } : Str)).cps.toList)) = decide (c ≤ 122) := by
  show (!decide (([122] : List Nat) < [c])) = _
  rw [lt_sign, ← decide_not]
  exact decide_eq_decide.mpr (by omega)
end Gd

namespace Gd
open PySem PySem.Spec PyProof.Rows L2
theorem repS_same {z : Str} {n : Int} (h : n = 1 ∨ z.length = 0) : repS z n = z := by
  refine str_ext ?_
  rw [repS_list]
  rcases h with rfl | h
  · show (List.replicate 1 z.cps.toList).flatten = _
    simp
  · have e : z.cps.toList = [] := by
      rw [← List.length_eq_zero_iff, ← len_list]
      exact h
    rw [e]
    simp
theorem Tx.reps {m : Nat} {x : Str} (t : Tx m x) (n : Int) : Tx (n.toNat * m) (repS x n) := by
  refine ⟨?_, fun c hc => ?_⟩
  · rw [len_list, repS_list, List.length_flatten, List.map_replicate]
    have h1 := sum_le (l := List.replicate n.toNat x.cps.toList.length) (n := m) fun k hk => by
      rw [(List.mem_replicate.mp hk).2, ← len_list]
      exact t.len
    rw [List.length_replicate] at h1
    exact h1
  · rw [repS_list] at hc
    obtain ⟨l, hl, hc⟩ := List.mem_flatten.mp hc
    rw [(List.mem_replicate.mp hl).2] at hc
    exact t.asc c hc
section
variable {X : Cx}
theorem op_repA : OpR X (binaryOp .Mult) (fun x y H Q => ∃ z n, x = .str z ∧ y = .int n ∧ 1 ≤ n ∧ n < 1000000 ∧ z.length * n.toNat ≤ sizeLine ∧ Q (.str (repS z n)) H) := by
  intro pins s σ H x y v u Q I rx ry h
  obtain ⟨z, n, rfl, rfl, h1, h2, hz, q⟩ := h
  by_cases hs : n = 1 ∨ z.length = 0
  · rw [repS_same hs] at q
    obtain ⟨t, rfl⟩ := rx
    obtain ⟨t', rfl⟩ := ry
    have e1 : (n == 1 || z.length == 0) = true := by
      rw [Bool.or_eq_true]
      rcases hs with h | h
      · exact .inl (beq_iff_eq.mpr h)
      · exact .inr (beq_iff_eq.mpr h)
    have hb : ¬ (z.length : Int) > (2 ^ 63 - 1) / n := by
      intro c
      have hs := hz
      rw [sizeLine_eq] at hs
      have h3 : (z.length : Int) * n ≤ 16777216 := by
        have h4 : ((z.length * n.toNat : Nat) : Int) ≤ 16777216 := Int.ofNat_le.mpr hs
        rw [Int.natCast_mul, Int.toNat_of_nonneg (by omega)] at h4
        exact h4
      have h5 : (z.length : Int) ≤ 16777216 := by
        have h6 : (0 : Int) ≤ z.length := by omega
        have h7 : (z.length : Int) * 1 ≤ (z.length : Int) * n := Int.mul_le_mul_of_nonneg_left (by omega) (by omega)
        omega
      have h8 : (2 ^ 63 - 1 : Int) / n ≥ (2 ^ 63 - 1) / 1000000 := by
        have : (2 ^ 63 - 1 : Int) / 1000000 * n ≤ (2 ^ 63 - 1) := by
          have h9 : (2 ^ 63 - 1 : Int) / 1000000 = 9223372036854 := by decide
          rw [h9]
          omega
        exact (Int.le_ediv_iff_mul_le (by omega)).mpr this
      have h10 : (2 ^ 63 - 1 : Int) / 1000000 = 9223372036854 := by decide
      omega
    refine PySem.P.mul_str (by rw [Bool.or_eq_false_iff]; exact ⟨decide_eq_false (by omega), decide_eq_false (by omega)⟩) (fun _ _ => hb) (fun _ _ => ?_) ?_
    · unfold Builtin.Str.tooLong
      exact decide_eq_false (by omega)
    · rw [if_neg (by omega), if_pos e1]
      first
        | exact ⟨.str z, H, I, ⟨t, rfl⟩, q⟩
        | (unfold Made.post; exact ⟨.str z, H, I, ⟨t, rfl⟩, q⟩)
  · refine op_repS pins s σ H _ _ v u Q I rx ry ⟨z, n, rfl, rfl, ?_, h2, fun z => hs (.inr z), hz, q⟩
    have : n ≠ 1 := fun z => hs (.inl z)
    omega
end
end Gd

namespace Gd
open PySem L2
/-! ### what has come since -/
def newer (H H' : Hp) : Hp := fun a => match H a with
  | none => H' a
  | some _ => none
section
variable {H H' H'' : Hp} {a : Addr} {o : HO}
theorem newer_at (h : H a = none) (h' : H' a = some o) : newer H H' a = some o := by
  unfold newer
  rw [h]
  exact h'
theorem newer_of (h : newer H H' a = some o) : H a = none ∧ H' a = some o := by
  unfold newer at h
  cases e : H a with
  | none => rw [e] at h; exact ⟨rfl, h⟩
  | some u => rw [e] at h; exact nomatch h
theorem newer_same : Same (newer H H') H' := fun _ _ h => (newer_of h).2
theorem newer_go (k : ∀ b u, H b = none → H' b = some u → H'' b = some u) : Same (newer H H') (newer H H'') := fun b u h => newer_at (newer_of h).1 (k b u (newer_of h).1 (newer_of h).2)
end
/-! ### data of a depth -/
def Wd : Nat → Nat
  | 0 => 40000
  | n + 1 => 4 * Wd n + 1000
def Item (K : PySem.W.Frag) (G : Hp) (n : Nat) (v : V) : Prop := ∃ d, Da K G v d ∧ Ok1 d ∧ wid d ≤ Wd n ∧ d.depth ≤ n
section
variable {K : PySem.W.Frag} {G G' : Hp} {n : Nat}
theorem Item.same {v : V} (s : Same G G') : Item K G n v → Item K G' n v
  | ⟨d, h, r⟩ => ⟨d, h.same s, r⟩
theorem wd_pos : ∀ n, 1000 ≤ Wd n
  | 0 => by decide
  | n + 1 => by
    show 1000 ≤ 4 * Wd n + 1000
    omega
theorem Item.up {v : V} : Item K G n v → Item K G (n + 1) v
  | ⟨d, h, o, w, p⟩ => ⟨d, h, o, by
    show wid d ≤ 4 * Wd n + 1000
    omega, by omega⟩
theorem items : ∀ {ys : List V}, (∀ y ∈ ys, Item K G n y) → ∃ ds, DaL K G ys ds ∧ OkL ds ∧ widL ds ≤ ys.length * (Wd n + 2) ∧ PyData.depthAll ds ≤ n
  | [], _ => ⟨[], .nil, trivial, Nat.zero_le _, Nat.zero_le _⟩
  | y :: ys, h => by
    obtain ⟨d, h1, h2, h3, h4⟩ := h y List.mem_cons_self
    obtain ⟨ds, g1, g2, g3, g4⟩ := items (ys := ys) fun x hx => h x (List.mem_cons_of_mem _ hx)
    refine ⟨d :: ds, .cons h1 g1, ⟨h2, g2⟩, ?_, ?_⟩
    · show wid d + 2 + widL ds ≤ (ys.length + 1) * (Wd n + 2)
      rw [Nat.succ_mul]
      omega
    · show max d.depth (PyData.depthAll ds) ≤ n
      omega
theorem three {ys : List V} (hl : ys.length ≤ 3) : ys.length * (Wd n + 2) ≤ 3 * (Wd n + 2) := Nat.mul_le_mul_right _ hl
theorem item_lst {a : Addr} {ys : List V} (h : G a = some (.lst ys)) (hl : ys.length ≤ 3) (hy : ∀ y ∈ ys, Item K G n y) : Item K G (n + 1) (.ref a) := by
  obtain ⟨ds, g1, g2, g3, g4⟩ := items hy
  have := three (n := n) hl
  exact ⟨.list ds, .lst h g1, g2, by show widL ds + 2 ≤ 4 * Wd n + 1000; have := wd_pos n; omega, by show PyData.depthAll ds + 1 ≤ n + 1; omega⟩
theorem item_tup {a : Addr} {ys : List V} (h : G a = some (.tup ys)) (hl : ys.length ≤ 3) (hy : ∀ y ∈ ys, Item K G n y) : Item K G (n + 1) (.ref a) := by
  obtain ⟨ds, g1, g2, g3, g4⟩ := items hy
  have := three (n := n) hl
  exact ⟨.tuple ds, .tup (SqT.of h) g1, g2, by show widL ds + 3 ≤ 4 * Wd n + 1000; have := wd_pos n; omega, by show PyData.depthAll ds + 1 ≤ n + 1; omega⟩
/-- a small key -/
def SmK : Key → Prop
  | .inl _ => False
  | .inr x => Tx 5 x
theorem pairs : ∀ {kvs : List (Key × V)}, (∀ kv ∈ kvs, SmK kv.1 ∧ Item K G n kv.2) →
    ∃ ds, DaL K G (kvs.map (·.2)) ds ∧ OkK ((kvs.map fun p => kD p.1).zip ds) ∧ widK ((kvs.map fun p => kD p.1).zip ds) ≤ kvs.length * (Wd n + 60) ∧ PyData.depthKv ((kvs.map fun p => kD p.1).zip ds) ≤ n
  | [], _ => ⟨[], .nil, trivial, Nat.zero_le _, Nat.zero_le _⟩
  | kv :: kvs, h => by
    obtain ⟨hk, d, h1, h2, h3, h4⟩ := h kv List.mem_cons_self
    obtain ⟨ds, g1, g2, g3, g4⟩ := pairs (kvs := kvs) fun x hx => h x (List.mem_cons_of_mem _ hx)
    obtain ⟨k, v⟩ := kv
    cases k with
    | inl i => exact hk.elim
    | inr x =>
      have tx : Tx 5 x := hk
      have := tx.len
      refine ⟨d :: ds, .cons h1 g1, ⟨tx.big, h2, g2⟩, ?_, ?_⟩
      · show (10 * x.length + 2) + wid d + 4 + widK ((kvs.map fun p => kD p.1).zip ds) ≤ (kvs.length + 1) * (Wd n + 60)
        have e : (kvs.length + 1) * (Wd n + 60) = kvs.length * (Wd n + 60) + (Wd n + 60) := Nat.succ_mul _ _
        omega
      · show max (max 0 d.depth) (PyData.depthKv ((kvs.map fun p => kD p.1).zip ds)) ≤ n
        omega
theorem item_dct {a : Addr} {kvs : List (Key × V)} (h : G a = some (.dK kvs)) (hl : kvs.length ≤ 3) (hy : ∀ kv ∈ kvs, SmK kv.1 ∧ Item K G n kv.2) : Item K G (n + 1) (.ref a) := by
  obtain ⟨ds, g1, g2, g3, g4⟩ := pairs hy
  have : kvs.length * (Wd n + 60) ≤ 3 * (Wd n + 60) := Nat.mul_le_mul_right _ hl
  exact ⟨.dict _, .dct h g1, g2, by show widK _ + 2 ≤ 4 * Wd n + 1000; have := wd_pos n; omega, by show PyData.depthKv _ + 1 ≤ n + 1; omega⟩
end
theorem put_all {P : Key → Prop} {R : V → Prop} {acc : List (Key × V)} {k : Key} {v : V} (h : ∀ kv ∈ acc, P kv.1 ∧ R kv.2) (hk : P k) (hv : R v) : ∀ kv ∈ putK acc k v, P kv.1 ∧ R kv.2 := by
  intro kv hm
  unfold putK at hm
  split at hm
  · obtain ⟨u, hu, rfl⟩ := List.mem_map.mp hm
    split
    · exact ⟨(h u hu).1, hv⟩
    · exact h u hu
  · rcases List.mem_append.mp hm with e | e
    · exact h kv e
    · have : kv = (k, v) := by simpa using e
      rw [this]
      exact ⟨hk, hv⟩
theorem merge_all {P : Key → Prop} {R : V → Prop} : ∀ {more acc : List (Key × V)}, (∀ kv ∈ acc, P kv.1 ∧ R kv.2) → (∀ kv ∈ more, P kv.1 ∧ R kv.2) → ∀ kv ∈ mergeK acc more, P kv.1 ∧ R kv.2
  | [], acc, h, _ => h
  | m :: r, acc, h, hm => by
    show ∀ kv ∈ mergeK (putK acc m.1 m.2) r, _
    have := hm m List.mem_cons_self
    exact merge_all (put_all h this.1 this.2) fun x hx => hm x (List.mem_cons_of_mem _ hx)
theorem key_small {i : Nat} (h : i < 4) : Tx 5 (((toString ((i : Nat) : Int) : String)) : Str) := by
  have : i = 0 ∨ i = 1 ∨ i = 2 ∨ i = 3 := by omega
  rcases this with rfl | rfl | rfl | rfl <;> exact .of (by decide +kernel)
end Gd

namespace Gd
open PySem L2
/-! ### trees of expressions -/
inductive Tr where
  | none | empty | letter (c : Nat) | name (x : Str) | sgn (k : Fin 3) (t : Tr) | seq (l : List Tr) | cho (l : List Tr)
abbrev sNone : Str := "none"
abbrev sEmpty : Str := "empty"
abbrev sLetter : Str := "letter"
abbrev sName : Str := "name"
abbrev sSeq : Str := "sequence"
abbrev sCho : Str := "choice"
def sSgn (k : Fin 3) : Str := if k = 0 then "many" else if k = 1 then "some" else "maybe"
def Tr.kind : Tr → Str
  | .none => sNone
  | .empty => sEmpty
  | .letter _ => sLetter
  | .name _ => sName
  | .sgn k _ => sSgn k
  | .seq _ => sSeq
  | .cho _ => sCho
mutual
def Tr.height : Tr → Nat
  | .none => 1
  | .empty => 1
  | .letter _ => 1
  | .name _ => 1
  | .sgn _ t => t.height + 1
  | .seq l => heights l + 1
  | .cho l => heights l + 1
def heights : List Tr → Nat
  | [] => 1
  | t :: l => max t.height (heights l)
end
mutual
/-- well formed -/
def Tr.Wf : Tr → Prop
  | .none => True
  | .empty => True
  | .letter c => low c = true
  | .name x => Tx 8 x ∧ 1 ≤ x.length ∧ x.cps.toList.all low = true
  | .sgn _ t => t.Wf
  | .seq l => 2 ≤ l.length ∧ l.length ≤ 1000 ∧ Wfs l
  | .cho l => 2 ≤ l.length ∧ l.length ≤ 1000 ∧ Wfs l
def Wfs : List Tr → Prop
  | [] => True
  | t :: l => t.Wf ∧ Wfs l
end
mutual
inductive TrAt (H : Hp) : V → Tr → Prop
  | none {a : Addr} : H a = some (.tup [.str sNone]) → TrAt H (.ref a) .none
  | empty {a : Addr} : H a = some (.tup [.str sEmpty]) → TrAt H (.ref a) .empty
  | letter {a : Addr} {c : Nat} : H a = some (.tup [.str sLetter, .str ⟨#[c]⟩]) → TrAt H (.ref a) (.letter c)
  | name {a : Addr} {x : Str} : H a = some (.tup [.str sName, .str x]) → TrAt H (.ref a) (.name x)
  | sgn {a : Addr} {k : Fin 3} {v : V} {t : Tr} : H a = some (.tup [.str (sSgn k), v]) → TrAt H v t → TrAt H (.ref a) (.sgn k t)
  | seq {a b : Addr} {vs : List V} {ts : List Tr} : H a = some (.tup [.str sSeq, .ref b]) → H b = some (.lst vs) → TrsAt H vs ts → TrAt H (.ref a) (.seq ts)
  | cho {a b : Addr} {vs : List V} {ts : List Tr} : H a = some (.tup [.str sCho, .ref b]) → H b = some (.lst vs) → TrsAt H vs ts → TrAt H (.ref a) (.cho ts)
inductive TrsAt (H : Hp) : List V → List Tr → Prop
  | nil : TrsAt H [] []
  | cons {v : V} {vs : List V} {t : Tr} {ts : List Tr} : TrAt H v t → TrsAt H vs ts → TrsAt H (v :: vs) (t :: ts)
end
section
variable {H H' : Hp}
mutual
theorem TrAt.same (e : Same H H') : ∀ {v : V} {t : Tr}, TrAt H v t → TrAt H' v t
  | _, _, .none h => .none (e _ _ h)
  | _, _, .empty h => .empty (e _ _ h)
  | _, _, .letter h => .letter (e _ _ h)
  | _, _, .name h => .name (e _ _ h)
  | _, _, .sgn h t => .sgn (e _ _ h) (TrAt.same e t)
  | _, _, .seq h g t => .seq (e _ _ h) (e _ _ g) (TrsAt.same e t)
  | _, _, .cho h g t => .cho (e _ _ h) (e _ _ g) (TrsAt.same e t)
theorem TrsAt.same (e : Same H H') : ∀ {vs : List V} {ts : List Tr}, TrsAt H vs ts → TrsAt H' vs ts
  | _, _, .nil => .nil
  | _, _, .cons h r => .cons (TrAt.same e h) (TrsAt.same e r)
end
theorem TrsAt.length : ∀ {vs : List V} {ts : List Tr}, TrsAt H vs ts → vs.length = ts.length
  | _, _, .nil => rfl
  | _, _, .cons _ r => by rw [List.length_cons, List.length_cons, r.length]
/-- a part -/
theorem TrsAt.at : ∀ {vs : List V} {ts : List Tr} {i : Nat} {v : V}, TrsAt H vs ts → vs[i]? = some v → ∃ t, ts[i]? = some t ∧ TrAt H v t
  | _, _, 0, _, .cons h _, e => by
    injection e with e
    subst e
    exact ⟨_, rfl, h⟩
  | _, _, i + 1, _, .cons _ r, e => TrsAt.at (i := i) r e
end
/-- its pair of kind and part, as the program reads it -/
theorem TrAt.tup {H : Hp} {v : V} {t : Tr} (h : TrAt H v t) : ∃ a xs, v = .ref a ∧ H a = some (.tup (.str t.kind :: xs)) := by
  cases h with
  | none h => exact ⟨_, _, rfl, h⟩
  | empty h => exact ⟨_, _, rfl, h⟩
  | letter h => exact ⟨_, _, rfl, h⟩
  | name h => exact ⟨_, _, rfl, h⟩
  | sgn h _ => exact ⟨_, _, rfl, h⟩
  | seq h _ _ => exact ⟨_, _, rfl, h⟩
  | cho h _ _ => exact ⟨_, _, rfl, h⟩
theorem height_pos : ∀ t : Tr, 1 ≤ t.height
  | .none => Nat.le_refl _
  | .empty => Nat.le_refl _
  | .letter _ => Nat.le_refl _
  | .name _ => Nat.le_refl _
  | .sgn _ t => by show 1 ≤ t.height + 1; omega
  | .seq l => by show 1 ≤ heights l + 1; omega
  | .cho l => by show 1 ≤ heights l + 1; omega
theorem heights_at : ∀ {l : List Tr} {i : Nat} {t : Tr}, l[i]? = some t → t.height ≤ heights l
  | [], _, _, e => nomatch e
  | u :: l, 0, t, e => by
    injection e with e
    subst e
    exact Nat.le_max_left _ _
  | u :: l, i + 1, t, e => Nat.le_trans (heights_at (l := l) (i := i) e) (Nat.le_max_right _ _)
theorem wfs_at : ∀ {l : List Tr} {i : Nat} {t : Tr}, Wfs l → l[i]? = some t → t.Wf
  | [], _, _, _, e => nomatch e
  | u :: l, 0, t, h, e => by
    injection e with e
    subst e
    exact h.1
  | u :: l, i + 1, t, h, e => wfs_at (l := l) (i := i) h.2 e
end Gd

namespace Gd
open PySem PySem.Spec PyProof.Rows L2
/-! ### exceptions held as values -/
/-- one of the class C, its dict at d, stands at e -/
def ExV (C d e : Addr) : HO := .ext fun h => ∃ (oe : Obj) (vs : Array Value), h.get? e = some oe ∧ oe.cls = .ref C ∧ oe.dict = some d ∧ oe.data = .fields vs
theorem exV_ok {P : Program} {w : World} {H : Hp} {h : Heap} {C d e : Addr} {oe : Obj} {vs : Array Value} (h1 : h.get? e = some oe) (h2 : oe.cls = .ref C) (h3 : oe.dict = some d) (h4 : oe.data = .fields vs) : ObjOk P w H h e (ExV C d e) :=
  ⟨⟨oe, vs, h1, h2, h3, h4⟩, ⟨oe, h1⟩, fun _ _ ⟨o, v, a, b, c, e'⟩ k => ⟨o, v, k _ a, b, c, e'⟩⟩
def IsEx (C : Addr) (H : Hp) (v : V) : Prop := ∃ e d fs, v = .ref e ∧ H e = some (ExV C d e) ∧ H d = some (.xd fs)
theorem IsEx.same {C : Addr} {H H' : Hp} {v : V} (s : Same H H') : IsEx C H v → IsEx C H' v
  | ⟨e, d, fs, a, b, c⟩ => ⟨e, d, fs, a, s _ _ b, s _ _ c⟩
theorem IsEx.kind {C : Addr} {H : Hp} {v : V} : IsEx C H v → kind H v = .odd
  | ⟨e, d, fs, a, b, c⟩ => by
    subst a
    show kindO (H e) = .odd
    rw [b]
    rfl
/-- what isinstance asks of the class -/
structure ExcT (K : PySem.W.Frag) (C : Addr) : Prop where
  hcl : (PySem.W.clsIn K C).isSome = true
  hga : PySem.W.findIn K (.ref C) "__getattribute__" = some (some (.builtin "BaseException.__getattribute__"))
  hgt : PySem.W.findIn K (.ref C) "__getattr__" = some none
  hsub : PySem.W.subIn K (.ref C) (.type "BaseException") = some true
  ha : PySem.W.findIn K (.ref C) "__class__" = some (some (.builtin "object.__class__"))
  hn : PySem.W.specialIn K (.builtin "object.__class__") "__get__" = some (some (.builtin "getset_descriptor.__get__"))
  htk : PySem.W.takesIn K (.builtin "object.__class__") = some true
  hm : PySem.W.mroIn K C (.type "object") = some true
  noI : PySem.W.kitOne K (.ref C) (.type "int") = some false
  noS : PySem.W.kitOne K (.ref C) (.type "str") = some false
section
variable {X : Cx} {C : Addr}
theorem call_iskE (T : ExcT X.K C) : CallR X (.builtin "isinstance") (fun xs H Q => ∃ x n, xs = [x, .ty n] ∧ (n = "int" ∨ n = "str" ∨ (n = "bool" ∧ Pv H x)) ∧ (Pv H x ∨ IsEx C H x) ∧ Q (.bl (inst n (kind H x))) H) := by
  intro pins s σ H xs us Q I r h
  obtain ⟨x, n, rfl, hn, hv, q⟩ := h
  rcases hv with hv | hv
  · refine call_isk pins s σ H _ us Q I r ⟨x, n, rfl, ?_, hv, q⟩
    rcases hn with h | h | h
    · exact .inl h
    · exact .inr (.inl h)
    · exact .inr (.inr (.inl h.1))
  · rcases hn with h | h | h
    rotate_left 2
    · exact absurd hv.kind h.2
    all_goals
      rw [hv.kind] at q
      obtain ⟨e, d, fs, rfl, he, hd⟩ := hv
      obtain ⟨u1, u2, rfl, r1, r2⟩ := vals2 r
      cases (show u1 = Value.ref e from r1)
      cases (show u2 = Value.type n from r2)
      obtain ⟨⟨oe, vs, h1, h2, h3, h4⟩, _⟩ := (show ObjOk X.prog X.w H s.heap e (ExV C d e) from I.hok e _ he)
      obtain ⟨mA, hns, _⟩ := (show ObjOk X.prog X.w H s.heap d (.xd fs) from I.hok d _ hd)
      obtain ⟨od, ho, hl⟩ := lookIn_ns hns
      have J : PySem.W.InstAt s.heap e oe C (some od) := ⟨h1, h2, by unfold PySem.W.notCls; rw [h4] <;> rfl, by rw [h3]; exact ho⟩
      subst h
    · exact PySem.W.kia_one (PySem.W.kitx_exc T.hcl T.hga T.hgt T.hsub T.ha T.hn T.htk T.hm) I.kIn J T.noI (fun z => nomatch z) fun tk => ⟨.bl false, H, I.tok tk, rfl, q⟩
    · exact PySem.W.kia_one (PySem.W.kitx_exc T.hcl T.hga T.hgt T.hsub T.ha T.hn T.htk T.hm) I.kIn J T.noS (fun z => nomatch z) fun tk => ⟨.bl false, H, I.tok tk, rfl, q⟩
/-- C(e), a value -/
theorem pe_mkE {nm : Str} {qn : String} {fI : Addr} {a : Expr} {ta : TA} {p pos : Pos} {k : Nat} (T : PySem.EzValue.LowTxt X.K X.mg nm qn C fI) (hr : Room k X.A) (ha : PA X [a] ta) (hg : Gl X nm := by rfl) (hdb : (nm == ("__debug__" : Str)) = false := by decide)
    (he : starEach (a :: []) X.env = (false, eval a X.env) :: starEach [] X.env := by rfl) (hpl : (backTo pos (starEach [] X.env)).any (·.1) = false := by rfl) :
    PE X (.Call (.Name nm p) [a] [] pos) (fun σ H Q => ta σ H fun vs H1 => ∃ v, vs = [v] ∧ ∀ d e, H1 d = none → H1 e = none → d ≠ e → Q (.ref e) (upd (upd H1 d (.xd [(("value" : Str), v)])) e (ExV C d e))) := by
  refine ⟨fun pins s σ H Q I h => ?_⟩
  refine wpAny_Call_Name_kw (ld_glob I hg T.gC ?_ hdb)
  refine PySem.W.callWith_K (h₀ := X.base) I.ok.mod.kin T.kC (thn (ha.run pos pins s σ H _ I h) fun us s1 hh => ?_) he hpl
  obtain ⟨vs, H1, I1, r1, v, ev, q1⟩ := hh
  subst ev
  refine ⟨I1.kIn, ?_⟩
  cases r1 with
  | cons rv rn =>
    rename_i v' us'
    cases rn
    show wpAny _ _ (call (.ref C) [v']) _ _ _
    have hlim := I1.nolimit
    obtain ⟨hp, g, dr, tk, os⟩ := s1
    refine wpAny_call (PySem.EzValue.low_made T I1.kIn hlim (by have := hr.dp; omega) fun h' tk' e d M => ?_)
    obtain ⟨oe, fv, hoe, hc, hd, hdat, h1⟩ := M.obj
    have hns := M.ns
    obtain ⟨G', g1, g2⟩ := restrict h' fun b => decide (b ≠ e)
    have gk : ∀ b, b ≠ e → G'.get? b = h'.get? b := fun b hb => g1 b (decide_eq_true hb)
    have ge : G'.get? e = none := g2 e (by simp)
    have old : ∀ b o, hp.get? b = some o → G'.get? b = some o := fun b o q => (gk b (Nat.ne_of_lt (Nat.lt_of_lt_of_le (Heap.lt_size q) M.new))).trans (M.keep b o q)
    have ob : ObjOk X.prog X.w (upd H1 d (.xd [(("value" : Str), v)])) G' d (.xd [(("value" : Str), v)]) :=
      ⟨_, hns.at (fun o q => (gk d M.dne).trans q), fun f => relO_value rv f⟩
    have J : Inv X pins σ (upd H1 d (.xd [(("value" : Str), v)])) ⟨G', g, dr, tk', os⟩ := I1.laid (t' := tk') old M.dbig ob
    have fe : H1 e = none := I1.hok.fresh M.new
    have fe' : upd H1 d (.xd [(("value" : Str), v)]) e = none := by
      rw [upd_ne (Ne.symm M.dne)]
      exact fe
    have kp : ∀ b o, G'.get? b = some o → h'.get? b = some o := fun b o q => by
      by_cases hb : b = e
      · rw [hb, ge] at q; cases q
      · exact (gk b hb).symm.trans q
    exact ⟨.ref e, _, J.laidN (h' := h') (t' := tk') kp ge fe' (exV_ok hoe hc hd hdat), rfl, q1 d e (I1.hok.fresh M.dbig) fe M.dne⟩
end
end Gd

namespace KT
open PySem L2 Gd
def top (i : Nat) : Stmt := PySem.Challenge.pw_formatrepair_k09_arguments_by_name.main.body.getD i (.Pass ⟨0, 0, 0, 0⟩)
def isSgn : Tr → Bool
  | .sgn _ _ => true
  | _ => false
/-- what the defs on trees ask of the names that no def stands behind -/
structure Txt (w : World) (K : PySem.W.Frag) (mg : Str → Option Value) (base : Heap) (aS aL : Addr) (es : Array DictEntry) (n : Nat) : Prop where
  sys : SysIn base
  g_LONGEST_NAME : ∃ u, mg "LONGEST_NAME" = some u ∧ RelV (.int 8) u
  g_MOST_OPEN : ∃ u, mg "MOST_OPEN" = some u ∧ RelV (.int 20) u
  g_WHOLE : ∃ u, mg "WHOLE" = some u ∧ RelV (.int 0) u
  g_ROW : ∃ u, mg "ROW" = some u ∧ RelV (.int 1) u
  g_ITEM : ∃ u, mg "ITEM" = some u ∧ RelV (.int 2) u
  g_OPERAND : ∃ u, mg "OPERAND" = some u ∧ RelV (.int 3) u
  g_LISTED : ∃ u, mg "LISTED" = some u ∧ RelV (.ref aL) u
  q_LISTED : ∀ H, SqT K H aL [.str sSeq, .str sCho]
  g_SIGNS_BY_KIND : ∃ u, mg "SIGNS_BY_KIND" = some u ∧ RelV (.ref aS) u
  d_SIGNS_BY_KIND : KDict K w aS es n
  i_SIGNS_BY_KIND : ∀ t : Tr, ∃ r, PySem.W.nsIn K aS t.kind = some r ∧ r.isSome = isSgn t
  z_isinstance : mg "isinstance" = none
  z_str : mg "str" = none
  z_list : mg "list" = none
  z_tuple : mg "tuple" = none
  z_len : mg "len" = none
  z_all : mg "all" = none
/-- whether a tree of this kind stands in parentheses -/
def needs : Tr → Int → Bool
  | .cho _, p => decide (1 ≤ p)
  | .seq _, p => decide (2 ≤ p)
  | .empty, p => decide (2 ≤ p)
  | .sgn _ _, p => decide (p = 3)
  | _, _ => false
def placeIn : Tr → Int
  | .cho _ => 1
  | .seq _ => 2
  | _ => 3
def spNeeds : Sp := fun vs H Q _ => ∃ (t : Tr) (p : Int), vs = [.str t.kind, .int p] ∧ Q (.bl (needs t p)) H
def spPlace : Sp := fun vs H Q _ => ∃ t : Tr, vs = [.str t.kind] ∧ Q (.int (placeIn t)) H
theorem kindEq (t : Tr) (z : Str) : decide (V.str t.kind = V.str z) = decide (t.kind = z) := decide_eq_decide.mpr ⟨fun h => by injection h, fun h => by rw [h]⟩
theorem cho_of {t : Tr} (c : decide (t.kind = Str.ofString "choice") = true) : ∃ l, t = .cho l := by
  have no : ∀ k : Fin 3, decide (sSgn k = Str.ofString "choice") = false := by decide +kernel
  cases t with
  | sgn k u => exact absurd (show decide (sSgn k = Str.ofString "choice") = true from c) (by rw [no k]; exact Bool.false_ne_true)
  | none => exact absurd (show decide (sNone = Str.ofString "choice") = true from c) (by decide +kernel)
  | empty => exact absurd (show decide (sEmpty = Str.ofString "choice") = true from c) (by decide +kernel)
  | letter u => exact absurd (show decide (sLetter = Str.ofString "choice") = true from c) (by decide +kernel)
  | name u => exact absurd (show decide (sName = Str.ofString "choice") = true from c) (by decide +kernel)
  | seq u => exact absurd (show decide (sSeq = Str.ofString "choice") = true from c) (by decide +kernel)
  | cho u => exact ⟨_, rfl⟩
theorem seq_of {t : Tr} (c : decide (t.kind = Str.ofString "sequence") = true) : ∃ l, t = .seq l := by
  have no : ∀ k : Fin 3, decide (sSgn k = Str.ofString "sequence") = false := by decide +kernel
  cases t with
  | sgn k u => exact absurd (show decide (sSgn k = Str.ofString "sequence") = true from c) (by rw [no k]; exact Bool.false_ne_true)
  | none => exact absurd (show decide (sNone = Str.ofString "sequence") = true from c) (by decide +kernel)
  | empty => exact absurd (show decide (sEmpty = Str.ofString "sequence") = true from c) (by decide +kernel)
  | letter u => exact absurd (show decide (sLetter = Str.ofString "sequence") = true from c) (by decide +kernel)
  | name u => exact absurd (show decide (sName = Str.ofString "sequence") = true from c) (by decide +kernel)
  | seq u => exact ⟨_, rfl⟩
  | cho u => exact absurd (show decide (sCho = Str.ofString "sequence") = true from c) (by decide +kernel)
theorem emp_of {t : Tr} (c : decide (t.kind = Str.ofString "empty") = true) : t = .empty := by
  have no : ∀ k : Fin 3, decide (sSgn k = Str.ofString "empty") = false := by decide +kernel
  cases t with
  | sgn k u => exact absurd (show decide (sSgn k = Str.ofString "empty") = true from c) (by rw [no k]; exact Bool.false_ne_true)
  | none => exact absurd (show decide (sNone = Str.ofString "empty") = true from c) (by decide +kernel)
  | empty => exact rfl
  | letter u => exact absurd (show decide (sLetter = Str.ofString "empty") = true from c) (by decide +kernel)
  | name u => exact absurd (show decide (sName = Str.ofString "empty") = true from c) (by decide +kernel)
  | seq u => exact absurd (show decide (sSeq = Str.ofString "empty") = true from c) (by decide +kernel)
  | cho u => exact absurd (show decide (sCho = Str.ofString "empty") = true from c) (by decide +kernel)
theorem non_of {t : Tr} (c : decide (t.kind = Str.ofString "none") = true) : t = .none := by
  have no : ∀ k : Fin 3, decide (sSgn k = Str.ofString "none") = false := by decide +kernel
  cases t with
  | sgn k u => exact absurd (show decide (sSgn k = Str.ofString "none") = true from c) (by rw [no k]; exact Bool.false_ne_true)
  | none => exact rfl
  | empty => exact absurd (show decide (sEmpty = Str.ofString "none") = true from c) (by decide +kernel)
  | letter u => exact absurd (show decide (sLetter = Str.ofString "none") = true from c) (by decide +kernel)
  | name u => exact absurd (show decide (sName = Str.ofString "none") = true from c) (by decide +kernel)
  | seq u => exact absurd (show decide (sSeq = Str.ofString "none") = true from c) (by decide +kernel)
  | cho u => exact absurd (show decide (sCho = Str.ofString "none") = true from c) (by decide +kernel)
theorem let_of {t : Tr} (c : decide (t.kind = Str.ofString "letter") = true) : ∃ l, t = .letter l := by
  have no : ∀ k : Fin 3, decide (sSgn k = Str.ofString "letter") = false := by decide +kernel
  cases t with
  | sgn k u => exact absurd (show decide (sSgn k = Str.ofString "letter") = true from c) (by rw [no k]; exact Bool.false_ne_true)
  | none => exact absurd (show decide (sNone = Str.ofString "letter") = true from c) (by decide +kernel)
  | empty => exact absurd (show decide (sEmpty = Str.ofString "letter") = true from c) (by decide +kernel)
  | letter u => exact ⟨_, rfl⟩
  | name u => exact absurd (show decide (sName = Str.ofString "letter") = true from c) (by decide +kernel)
  | seq u => exact absurd (show decide (sSeq = Str.ofString "letter") = true from c) (by decide +kernel)
  | cho u => exact absurd (show decide (sCho = Str.ofString "letter") = true from c) (by decide +kernel)
theorem nam_of {t : Tr} (c : decide (t.kind = Str.ofString "name") = true) : ∃ l, t = .name l := by
  have no : ∀ k : Fin 3, decide (sSgn k = Str.ofString "name") = false := by decide +kernel
  cases t with
  | sgn k u => exact absurd (show decide (sSgn k = Str.ofString "name") = true from c) (by rw [no k]; exact Bool.false_ne_true)
  | none => exact absurd (show decide (sNone = Str.ofString "name") = true from c) (by decide +kernel)
  | empty => exact absurd (show decide (sEmpty = Str.ofString "name") = true from c) (by decide +kernel)
  | letter u => exact absurd (show decide (sLetter = Str.ofString "name") = true from c) (by decide +kernel)
  | name u => exact ⟨_, rfl⟩
  | seq u => exact absurd (show decide (sSeq = Str.ofString "name") = true from c) (by decide +kernel)
  | cho u => exact absurd (show decide (sCho = Str.ofString "name") = true from c) (by decide +kernel)
section
variable {P : Program} {w : World} {K : PySem.W.Frag} {mg : Str → Option Value} {base : Heap} {aS aL : Addr} {es : Array DictEntry} {n : Nat}
abbrev sneeds_parentheses : Stmt := top 29
theorem scneeds_parentheses : FnScope ["kind", "place"] ["kind", "place"] (defScope sneeds_parentheses) := ⟨rfl, rfl, rfl, by decide +kernel, rfl, by decide +kernel, by decide +kernel⟩
theorem ok_needs {f : Addr} {fd : FuncData} (F : Fun K "needs_parentheses" "needs_parentheses" sneeds_parentheses f fd) (T : Txt w K mg base aS aL es n) : FnG P w K mg base CX0 1 f fd ["kind", "place"] spNeeds := by
  refine okG F scneeds_parentheses (fun vs H Q E h => ?_) (fun cdv A outer s H vs Q E hc hr h => ?_)
  · obtain ⟨t, p, rfl, _⟩ := h
    rfl
  obtain ⟨t, p, rfl, q⟩ := h
  refine ⟨_, (pss_cons (ps_if (pt_cmpR op_eq (pv 0) pe_str (nomark _))
  (pss_one (ps_ret (pe_cmpR op_ge (pv 1) (pe_k (by rfl) T.g_ROW) (nomark _)))) pss_nil)
 (pss_cons (ps_if (PW.pt (pw_or (pt_cmpR op_eq (pv 0) pe_str (nomark _)) (pw_or1 (pt_cmpR op_eq (pv 0) pe_str (nomark _)))))
  (pss_one (ps_ret (pe_cmpR op_ge (pv 1) (pe_k (by rfl) T.g_ITEM) (nomark _)))) pss_nil)
 (pss_one (ps_ret (pe_and (pe_cmpR (op_in_kd T.d_SIGNS_BY_KIND) (pv 0) (pe_k (by rfl) T.g_SIGNS_BY_KIND) (by rfl)) (pe_one (pe_cmpR op_eq (pv 1) (pe_k (by rfl) T.g_OPERAND) (nomark _)))))))), ?_⟩
  obtain ⟨r, hr1, hr2⟩ := T.i_SIGNS_BY_KIND t
  refine ⟨_, rfl, rfl, _, rfl, ?_⟩
  rw [kindEq]
  refine iteB (fun c => ?_) (fun c => ?_)
  · obtain ⟨l, rfl⟩ := cho_of c
    exact ⟨_, rfl, _, _, rfl, rfl, q⟩
  refine ⟨_, rfl, rfl, _, rfl, ?_⟩
  rw [kindEq]
  refine iteB (fun c2 => ?_) (fun c2 => ?_)
  · obtain ⟨l, rfl⟩ := seq_of c2
    exact iteT ⟨_, rfl, _, _, rfl, rfl, q⟩
  refine ⟨_, rfl, rfl, _, rfl, ?_⟩
  rw [kindEq]
  refine iteB (fun c3 => ?_) (fun c3 => ?_)
  · obtain rfl := emp_of c3
    exact ⟨_, rfl, _, _, rfl, rfl, q⟩
  refine ⟨_, rfl, _, r, rfl, rfl, hr1, _, rfl, ?_⟩
  rw [hr2]
  have e : needs t p = (isSgn t && decide (p = 3)) := by
    cases t with
    | cho l => exact absurd (show decide (sCho = Str.ofString "choice") = false from c) (by decide +kernel)
    | seq l => exact absurd (show decide (sSeq = Str.ofString "sequence") = false from c2) (by decide +kernel)
    | empty => exact absurd (show decide (sEmpty = Str.ofString "empty") = false from c3) (by decide +kernel)
    | _ => first | rfl | (show decide (p = 3) = (true && decide (p = 3)); rw [Bool.true_and])
  rw [e] at q
  refine iteB (fun c4 => ?_) (fun c4 => ?_)
  · rw [c4, Bool.true_and] at q
    refine ⟨_, rfl, rfl, ?_⟩
    have e3 : decide (V.int p = V.int 3) = decide (p = 3) := decide_eq_decide.mpr ⟨fun z => by injection z, fun z => by rw [z]⟩
    rw [e3]
    exact q
  · rw [c4, Bool.false_and] at q
    exact q
abbrev splace_inside : Stmt := top 30
theorem scplace_inside : FnScope ["kind"] ["kind"] (defScope splace_inside) := ⟨rfl, rfl, rfl, by decide +kernel, rfl, by decide +kernel, by decide +kernel⟩
theorem ok_place {f : Addr} {fd : FuncData} (F : Fun K "place_inside" "place_inside" splace_inside f fd) (T : Txt w K mg base aS aL es n) : FnG P w K mg base CX0 1 f fd ["kind"] spPlace := by
  refine okG F scplace_inside (fun vs H Q E h => ?_) (fun cdv A outer s H vs Q E hc hr h => ?_)
  · obtain ⟨t, rfl, _⟩ := h
    rfl
  obtain ⟨t, rfl, q⟩ := h
  refine ⟨_, (pss_cons (ps_if (pt_cmpR op_eq (pv 0) pe_str (nomark _))
  (pss_one (ps_ret (pe_k (by rfl) T.g_ROW))) pss_nil)
 (pss_cons (ps_if (pt_cmpR op_eq (pv 0) pe_str (nomark _))
  (pss_one (ps_ret (pe_k (by rfl) T.g_ITEM))) pss_nil)
 (pss_one (ps_ret (pe_k (by rfl) T.g_OPERAND))))), ?_⟩
  refine ⟨_, rfl, rfl, _, rfl, ?_⟩
  rw [kindEq]
  refine iteB (fun c => ?_) (fun c => ?_)
  · obtain ⟨l, rfl⟩ := cho_of c
    exact q
  refine ⟨_, rfl, rfl, _, rfl, ?_⟩
  rw [kindEq]
  refine iteB (fun c2 => ?_) (fun c2 => ?_)
  · obtain ⟨l, rfl⟩ := seq_of c2
    exact q
  have e : placeIn t = 3 := by
    cases t with
    | cho l => exact absurd (show decide (sCho = Str.ofString "choice") = false from c) (by decide +kernel)
    | seq l => exact absurd (show decide (sSeq = Str.ofString "sequence") = false from c2) (by decide +kernel)
    | _ => rfl
  rw [e] at q
  exact q
end
end KT

namespace KT
open PySem L2 Gd
def Short (v : V) : Prop := ∀ x, v = .str x → Tx 100000 x
def isTxt : V → Bool
  | .str x => x.cps.toList.all low
  | _ => false
def isLet : V → Bool
  | .str x => decide (x.length = 1) && x.cps.toList.all low
  | _ => false
def isNam : V → Bool
  | .str x => decide (1 ≤ x.length) && (decide (x.length ≤ 8) && x.cps.toList.all low)
  | _ => false
def spAsk (f : V → Bool) : Sp := fun vs H Q _ => ∃ v, vs = [v] ∧ Pv H v ∧ Short v ∧ ∀ H', Same H H' → Q (.bl (f v)) H'
section
variable {P : Program} {w : World} {K : PySem.W.Frag} {mg : Str → Option Value} {base : Heap} {aS aL : Addr} {es : Array DictEntry} {n : Nat}
theorem notStr {H : Hp} {v : V} (c : inst "str" (kind H v) = false) : isTxt v = false ∧ isLet v = false ∧ isNam v = false := by
  rw [isStr_kind] at c
  cases v with
  | str x => exact nomatch c
  | _ => exact ⟨rfl, rfl, rfl⟩
theorem isStrOf {H : Hp} {v : V} (c : inst "str" (kind H v) = true) : ∃ x, v = .str x := by
  rw [isStr_kind] at c
  cases v with
  | str x => exact ⟨x, rfl⟩
  | _ => exact nomatch c
abbrev sis_letter : Stmt := top 10
theorem scis_letter : FnScope ["value"] ["value"] (defScope sis_letter) := ⟨rfl, rfl, rfl, by decide +kernel, rfl, by decide +kernel, by decide +kernel⟩
theorem ok_isletter {f : Addr} {fd : FuncData} (F : Fun K "is_letter" "is_letter" sis_letter f fd) (T : Txt w K mg base aS aL es n) : FnG P w K mg base CX0 1 f fd ["value"] (spAsk isLet) := by
  refine okG F scis_letter (fun vs H Q E h => ?_) (fun cdv A outer s H vs Q E hc hr h => ?_)
  · obtain ⟨v, rfl, _⟩ := h
    rfl
  obtain ⟨v, rfl, hv, hs, q⟩ := h
  have q := q H (Same.refl H)
  refine ⟨_, (pss_one (ps_ret (pe_and (pe_callB call_isk (by rfl) T.z_isinstance (by decide +kernel) (pa_cons (pv 0) (pa_cons (pe_bltn (v := .ty "str") (by rfl) T.z_str (by decide +kernel) rfl) pa_nil))) (pe_and (pe_cmpR op_eq (pe_callB call_len_str (by rfl) T.z_len (by decide +kernel) (pa_cons (pv 0) pa_nil)) pe_int (nomark _)) (pe_one (pe_chain op_le_str op_le_str pe_str (pv 0) pe_str)))))), ?_⟩
  refine ⟨_, rfl, v, _, rfl, .inr (.inl rfl), hv, _, rfl, ?_⟩
  refine iteB (fun c => ?_) (fun c => ?_)
  · obtain ⟨x, rfl⟩ := isStrOf c
    have tx := hs x rfl
    have hl := tx.len
    have z16 := sizeLine_eq
    refine ⟨_, rfl, x, rfl, by omega, rfl, _, rfl, ?_⟩
    have e1 : decide (V.int (x.length : Int) = V.int 1) = decide (x.length = 1) := decide_eq_decide.mpr ⟨fun z => by injection z with z; omega, fun z => by rw [z]; rfl⟩
    rw [e1]
    have qq : Q (.bl (decide (x.length = 1) && x.cps.toList.all low)) H := q
    refine iteB (fun c1 => ?_) (fun c1 => ?_)
    · have h1 : x.cps.toList.length = 1 := by rw [← len_list]; exact of_decide_eq_true c1
      obtain ⟨u, hu⟩ := List.length_eq_one_iff.mp h1
      have ex : x = ⟨#[u]⟩ := str_ext hu
      subst ex
      refine ⟨_, rfl, _, _, rfl, rfl, _, rfl, ?_⟩
      rw [low_fst]
      have ql : Q (.bl (low u)) H := by
        have : (decide (({ cps := #[u] } : Str).length = 1) && ({ cps := #[u] } : Str).cps.toList.all low) = low u := by
          show (true && (low u && true)) = low u
          simp
        rw [this] at qq
        exact qq
      refine iteB (fun g1 => ?_) (fun g1 => ?_)
      · refine ⟨_, _, rfl, rfl, ?_⟩
        rw [low_snd]
        have : low u = decide (u ≤ 122) := by unfold low; rw [g1, Bool.true_and]
        rw [← this]
        exact ql
      · have : low u = false := by unfold low; rw [g1, Bool.false_and]
        rw [← this]
        exact ql
    · rw [c1, Bool.false_and] at qq
      exact qq
  · have := (notStr c).2.1
    rw [this] at q
    exact q
abbrev sis_text : Stmt := top 11
theorem scis_text : FnScope ["value", "sign"] ["value"] (defScope sis_text) := ⟨rfl, rfl, rfl, by decide +kernel, rfl, by decide +kernel, by decide +kernel⟩
theorem ok_istext {f : Addr} {fd : FuncData} (F : Fun K "is_text" "is_text" sis_text f fd) (T : Txt w K mg base aS aL es n) : FnG P w K mg base CX0 1 f fd ["value"] (spAsk isTxt) := by
  refine okG F scis_text (fun vs H Q E h => ?_) (fun cdv A outer s H vs Q E hc hr h => ?_)
  · obtain ⟨v, rfl, _⟩ := h
    rfl
  obtain ⟨v, rfl, hv, hs, q⟩ := h
  refine ⟨_, (pss_one (ps_ret (pe_and (pe_callB call_isk (by rfl) T.z_isinstance (by decide +kernel) (pa_cons (pv 0) (pa_cons (pe_bltn (v := .ty "str") (by rfl) T.z_str (by decide +kernel) rfl) pa_nil))) (pe_one (pe_callB (cr_all rfl) (by rfl) T.z_all (by decide +kernel) (pa_cons (pe_lc (own := [("sign", 1)]) (g := gName 1) rfl scis_text.nd (pi_str (pv 0)) (blkOk_by (N := ["value", "sign"]) (sc := defScope sis_text) (by decide +kernel)) (fun _ _ _ _ _ => pg_name (i := 1) scis_text.nd rfl (Or.inl rfl)) (fun _ _ _ _ _ => pts_nil) (fun _ _ _ _ _ => (pe_chain op_le_str op_le_str pe_str (pv 1) pe_str))) pa_nil)))))), ?_⟩
  refine ⟨_, rfl, v, _, rfl, .inr (.inl rfl), hv, _, rfl, ?_⟩
  refine iteB (fun c => ?_) (fun c => ?_)
  · obtain ⟨x, rfl⟩ := isStrOf c
    have tx := hs x rfl
    have hl := tx.len
    have z16 := sizeLine_eq
    refine ⟨_, rfl, x, rfl, fun D hD => ?_⟩
    refine lc_text (fun c => .bl (low c)) (fun _ => true) (by omega) (fun c acc Q' _ k => k) (fun c acc Q' hc _ k => ?_) ?_
    · refine ⟨_, rfl, _, _, rfl, rfl, _, rfl, ?_⟩
      rw [low_fst]
      refine iteB (fun g1 => ?_) (fun g1 => ?_)
      · refine ⟨_, _, rfl, rfl, ?_⟩
        rw [low_snd]
        have : low c = decide (c ≤ 122) := by unfold low; rw [g1, Bool.true_and]
        rw [← this]
        exact k
      · have : low c = false := by unfold low; rw [g1, Bool.false_and]
        rw [← this]
        exact k
    · rw [List.filter_eq_self.mpr (fun _ _ => rfl)]
      refine ⟨D, x.cps.toList |>.map low, rfl, ?_, ?_⟩
      · rw [List.map_map]
        exact SqL.of upd_same
      · have ea : (x.cps.toList.map low).all id = x.cps.toList.all low := by
          rw [List.all_map]
          rfl
        rw [ea]
        exact q _ fun b o e => by rw [upd_ne (ne_of_none e hD)]; exact e
  · have r := q H (Same.refl H)
    have := (notStr c).1
    rw [this] at r
    exact r
abbrev sis_name : Stmt := top 12
theorem scis_name : FnScope ["value"] ["value"] (defScope sis_name) := ⟨rfl, rfl, rfl, by decide +kernel, rfl, by decide +kernel, by decide +kernel⟩
theorem ok_isname {f f1 : Addr} {fd fd1 : FuncData} (F : Fun K "is_name" "is_name" sis_name f fd) (T : Txt w K mg base aS aL es n)
    (D_is_text : Df P w K mg base CX0 1 "is_text" f1 fd1 ["value"] (spAsk isTxt)) : FnG P w K mg base CX0 2 f fd ["value"] (spAsk isNam) := by
  refine okG F scis_name (fun vs H Q E h => ?_) (fun cdv A outer s H vs Q E hc hr h => ?_)
  · obtain ⟨v, rfl, _⟩ := h
    rfl
  obtain ⟨v, rfl, hv, hs, q⟩ := h
  refine ⟨_, (pss_one (ps_ret (pe_and (pe_callB call_isk (by rfl) T.z_isinstance (by decide +kernel) (pa_cons (pv 0) (pa_cons (pe_bltn (v := .ty "str") (by rfl) T.z_str (by decide +kernel) rfl) pa_nil))) (pe_and (pe_chain op_le op_le pe_int (pe_callB call_len_str (by rfl) T.z_len (by decide +kernel) (pa_cons (pv 0) pa_nil)) (pe_k (by rfl) T.g_LONGEST_NAME)) (pe_one (pe_d D_is_text hc (hr.mono (by omega)) (by rfl) (fun _ => passN) (pa_cons (pv 0) pa_nil))))))), ?_⟩
  refine ⟨_, rfl, v, _, rfl, .inr (.inl rfl), hv, _, rfl, ?_⟩
  refine iteB (fun c => ?_) (fun c => ?_)
  · obtain ⟨x, rfl⟩ := isStrOf c
    have tx := hs x rfl
    have hl := tx.len
    have z16 := sizeLine_eq
    have qq : ∀ H', Same H H' → Q (.bl (decide (1 ≤ x.length) && (decide (x.length ≤ 8) && x.cps.toList.all low))) H' := q
    refine ⟨_, rfl, x, rfl, by omega, _, _, rfl, rfl, _, rfl, ?_⟩
    have e1 : decide ((1 : Int) ≤ (x.length : Int)) = decide (1 ≤ x.length) := decide_eq_decide.mpr (by omega)
    have e2 : decide ((x.length : Int) ≤ (8 : Int)) = decide (x.length ≤ 8) := decide_eq_decide.mpr (by omega)
    rw [e1]
    refine iteB (fun c1 => ?_) (fun c1 => ?_)
    · refine ⟨_, _, rfl, rfl, _, rfl, ?_⟩
      rw [e2]
      refine iteB (fun c2 => ?_) (fun c2 => ?_)
      · refine ⟨_, rfl, _, rfl, hv, hs, fun H' s => ?_⟩
        have := qq H' s
        rw [c1, c2, Bool.true_and, Bool.true_and] at this
        exact this
      · have := qq H (Same.refl H)
        rw [c1, c2, Bool.true_and, Bool.false_and] at this
        first
          | exact this
          | (show Q (.bl (decide ((x.length : Int) ≤ (8 : Int)))) H
             rw [e2, c2]
             exact this)
    · have := qq H (Same.refl H)
      rw [c1, Bool.false_and] at this
      refine ⟨_, rfl, ?_⟩
      refine iteB (fun c2 => absurd c2 (by decide)) (fun _ => this)
  · have r := q H (Same.refl H)
    have := (notStr c).2.2
    rw [this] at r
    exact r
end
end KT

namespace KT
open PySem L2 Gd
def spIsList : Sp := fun vs H Q _ => ∃ b xs, vs = [.ref b] ∧ H b = some (.lst xs) ∧ ∀ H', Same H H' → Q (.bl true) H'
/-- a well formed tree, at a place with so much room -/
def spAt (m : Nat) : Sp := fun vs H Q _ => ∃ (v : V) (t : Tr) (p r : Int), vs = [v, .int p, .int r] ∧ TrAt H v t ∧ t.Wf ∧ 0 ≤ p ∧ p ≤ 3 ∧ ((p = 0 ∧ (t.height : Int) ≤ r + 1 ∧ 2 * t.height ≤ m) ∨ (p ≠ 0 ∧ (t.height : Int) ≤ r ∧ 2 * t.height + 1 ≤ m)) ∧ ∀ H', Same H H' → Q (.bl true) H'
def spsAt (m : Nat) : Sp := fun vs H Q _ => ∃ (b : Addr) (xs : List V) (ts : List Tr) (p r : Int), vs = [.ref b, .int p, .int r] ∧ H b = some (.lst xs) ∧ TrsAt H xs ts ∧ Wfs ts ∧ 2 ≤ ts.length ∧ ts.length ≤ 1000 ∧ 1 ≤ p ∧ p ≤ 3 ∧ (heights ts : Int) ≤ r ∧ 2 * heights ts + 1 ≤ m ∧ ∀ H', Same H H' → Q (.bl true) H'
theorem _root_.Gd.TrAt.pv {H : Hp} {v : V} {t : Tr} (h : TrAt H v t) : kind H v = .tup := by
  obtain ⟨a, xs, rfl, e⟩ := h.tup
  show kindO (H a) = .tup
  rw [e]
  rfl
/-- the second item of a tree's tuple -/
def Part (H : Hp) : Tr → V → Prop
  | .letter c, y => y = .str ⟨#[c]⟩
  | .name x, y => y = .str x
  | .sgn _ u, y => TrAt H y u
  | .seq l, y => ∃ b vs, y = .ref b ∧ H b = some (.lst vs) ∧ TrsAt H vs l
  | .cho l, y => ∃ b vs, y = .ref b ∧ H b = some (.lst vs) ∧ TrsAt H vs l
  | _, _ => False
theorem _root_.Gd.TrAt.part {H : Hp} {a : Addr} {t : Tr} (h : TrAt H (.ref a) t) (n1 : t ≠ .none) (n2 : t ≠ .empty) : ∃ y, H a = some (.tup [.str t.kind, y]) ∧ Part H t y := by
  cases h with
  | none h => exact absurd rfl n1
  | empty h => exact absurd rfl n2
  | letter h => exact ⟨_, h, rfl⟩
  | name h => exact ⟨_, h, rfl⟩
  | sgn h g => exact ⟨_, h, g⟩
  | seq h g k => exact ⟨_, h, _, _, rfl, g, k⟩
  | cho h g k => exact ⟨_, h, _, _, rfl, g, k⟩
section
variable {P : Program} {w : World} {K : PySem.W.Frag} {mg : Str → Option Value} {base : Heap} {aS aL : Addr} {es : Array DictEntry} {n : Nat}
abbrev sis_list : Stmt := top 13
theorem scis_list : FnScope ["value"] ["value"] (defScope sis_list) := ⟨rfl, rfl, rfl, by decide +kernel, rfl, by decide +kernel, by decide +kernel⟩
theorem ok_islist {f : Addr} {fd : FuncData} (F : Fun K "is_list" "is_list" sis_list f fd) (T : Txt w K mg base aS aL es n) : FnG P w K mg base CX0 1 f fd ["value"] spIsList := by
  refine okG F scis_list (fun vs H Q E h => ?_) (fun cdv A outer s H vs Q E hc hr h => ?_)
  · obtain ⟨b, xs, rfl, _⟩ := h
    rfl
  obtain ⟨b, xs, rfl, hb, q⟩ := h
  refine ⟨_, (pss_one (ps_ret (pe_callB call_isk2 (by rfl) T.z_isinstance (by decide +kernel) (pa_cons (pv 0) (pa_cons (pe_tup (pa_cons (pe_bltn (v := .ty "list") (by rfl) T.z_list (by decide +kernel) rfl) (pa_cons (pe_bltn (v := .ty "tuple") (by rfl) T.z_tuple (by decide +kernel) rfl) pa_nil))) pa_nil))))), ?_⟩
  refine ⟨_, rfl, by show 2 ≤ sizeLine; decide, fun t ht => ?_⟩
  have s1 : Same H (upd H t (.tup [.ty "list", .ty "tuple"])) := fun c u h => by rw [upd_ne (ne_of_none h ht)]; exact h
  have kb : kind (upd H t (.tup [.ty "list", .ty "tuple"])) (.ref b) = .lst := by
    show kindO (upd H t (.tup [.ty "list", .ty "tuple"]) b) = .lst
    rw [s1 _ _ hb]
    rfl
  refine ⟨.ref b, t, "list", "tuple", rfl, upd_same, .inr (.inr (.inr (.inl rfl))), .inr (.inr (.inr (.inr (.inl rfl)))), by unfold Pv; rw [kb]; exact (fun z => nomatch z), ?_⟩
  rw [kb]
  exact q _ s1
abbrev sare_trees_at : Stmt := top 33
theorem scare_trees_at : FnScope ["value", "place", "room", "part"] ["value", "place", "room"] (defScope sare_trees_at) := ⟨rfl, rfl, rfl, by decide +kernel, rfl, by decide +kernel, by decide +kernel⟩
theorem ok_aretrees {f f1 f2 : Addr} {fd fd1 fd2 : FuncData} {m : Nat} (F : Fun K "are_trees_at" "are_trees_at" sare_trees_at f fd) (T : Txt w K mg base aS aL es n)
    (D_is_list : Df P w K mg base CX0 1 "is_list" f1 fd1 ["value"] spIsList) (D_is_tree_at : Df P w K mg base CX0 (2 + 2 * m) "is_tree_at" f2 fd2 ["value", "place", "room"] (spAt m)) :
    FnG P w K mg base CX0 (2 + 2 * m + 1) f fd ["value", "place", "room"] (spsAt m) := by
  refine okG F scare_trees_at (fun vs H Q E h => ?_) (fun cdv A outer s H vs Q E hc hr h => ?_)
  · obtain ⟨b, xs, ts, p, r, rfl, _⟩ := h
    rfl
  obtain ⟨b, xs, ts, p, r, rfl, hb, ht, hw, l2, l1000, p1, p3, hh, hm, q⟩ := h
  refine ⟨_, (pss_cons (ps_if (PW.pt (pw_or (pt_not (pt_val (pe_d D_is_list hc (hr.mono (by omega)) (by rfl) (fun _ => passN) (pa_cons (pv 0) pa_nil)))) (pw_or1 (pt_cmpR op_lt (pe_callB call_len_seq (by rfl) T.z_len (by decide +kernel) (pa_cons (pv 0) pa_nil)) pe_int (nomark _)))))
  (pss_one (ps_ret pe_bl)) pss_nil)
 (pss_cons (ps_for (passes_of rfl) rfl (pi_list (pv 0)) (pg_name (i := 3) scare_trees_at.nd rfl (Or.inl rfl))
  (pss_one (ps_if (pt_not (pt_val (pe_d D_is_tree_at hc (hr.mono (by omega)) (by rfl) (fun _ => passN) (pa_cons (pv 3) (pa_cons (pv 1) (pa_cons (pv 2) pa_nil))))))
  (pss_one (ps_ret pe_bl)) pss_nil)))
 (pss_one (ps_ret pe_bl)))), ?_⟩
  refine ⟨_, rfl, b, xs, rfl, hb, fun H1 s1 => ⟨_, rfl, ?_⟩⟩
  have lx := ht.length
  refine iteB (fun c => absurd c (by decide)) (fun _ => ?_)
  refine ⟨_, rfl, b, xs, rfl, .inl (SqL.of (s1 _ _ hb)), _, _, rfl, rfl, _, rfl, ?_⟩
  refine iteB (fun c => ?_) (fun _ => ?_)
  · have c1 := of_decide_eq_true c
    omega
  refine ⟨_, rfl, b, rfl, ⟨_, SqL.of (s1 _ _ hb)⟩, for_list (K := K) (a := b) (xs := xs) (fun i σ H' => ∃ o3, σ = [some (.ref b), some (.int p), some (.int r), o3] ∧ Same H H') ⟨none, rfl, s1⟩ (fun _ _ H' _ ⟨_, _, s⟩ => SqL.of (s _ _ hb)) ?_ ?_⟩
  · rintro i x _ H2 hx ⟨o3, rfl, s2⟩
    obtain ⟨t, e1, e2⟩ := ht.at hx
    have h1 := heights_at e1
    refine ⟨_, rfl, _, rfl, _, rfl, x, t, p, r, rfl, e2.same s2, wfs_at hw e1, by omega, p3, .inr ⟨by omega, by omega, by omega⟩, fun H3 s3 => ⟨_, rfl, ?_⟩⟩
    refine iteB (fun c => absurd c (by decide)) (fun _ => ⟨_, rfl, s2.trans s3⟩)
  rintro _ H2 ⟨o3, rfl, s2⟩
  exact q H2 s2
abbrev sis_tree_at : Stmt := top 32
theorem scis_tree_at : FnScope ["value", "place", "room", "kind"] ["value", "place", "room"] (defScope sis_tree_at) := ⟨rfl, rfl, rfl, by decide +kernel, rfl, by decide +kernel, by decide +kernel⟩
theorem ok_treeat {f f1 f2 f3 f4 f5 f6 : Addr} {fd fd1 fd2 fd3 fd4 fd5 fd6 : FuncData} {m : Nat} (F : Fun K "is_tree_at" "is_tree_at" sis_tree_at f fd) (T : Txt w K mg base aS aL es n)
    (D_is_letter : Df P w K mg base CX0 1 "is_letter" f1 fd1 ["value"] (spAsk isLet)) (D_is_name : Df P w K mg base CX0 2 "is_name" f2 fd2 ["value"] (spAsk isNam))
    (D_needs_parentheses : Df P w K mg base CX0 1 "needs_parentheses" f3 fd3 ["kind", "place"] spNeeds) (D_place_inside : Df P w K mg base CX0 1 "place_inside" f4 fd4 ["kind"] spPlace)
    (D_are_trees_at : Df P w K mg base CX0 (2 + 2 * m + 1) "are_trees_at" f5 fd5 ["value", "place", "room"] (spsAt m)) (D_is_tree_at : Df P w K mg base CX0 (2 + 2 * m) "is_tree_at" f6 fd6 ["value", "place", "room"] (spAt m)) :
    FnG P w K mg base CX0 (2 + 2 * m + 2) f fd ["value", "place", "room"] (spAt (m + 1)) := by
  refine okG (k := 2 + 2 * m + 1) F scis_tree_at (fun vs H Q E h => ?_) (fun cdv A outer s H vs Q E hc hr h => ?_)
  · obtain ⟨v, t, p, r, rfl, _⟩ := h
    rfl
  obtain ⟨v, t, p, r, rfl, ht, hw, p0, p3, cond, q⟩ := h
  refine ⟨_, (pss_cons (ps_if (PW.pt (pw_or (pt_not (pt_val (pe_callB call_isk (by rfl) T.z_isinstance (by decide +kernel) (pa_cons (pv 0) (pa_cons (pe_bltn (v := .ty "tuple") (by rfl) T.z_tuple (by decide +kernel) rfl) pa_nil))))) (pw_or (pt_cmpR op_eq (pe_callB call_len_seq (by rfl) T.z_len (by decide +kernel) (pa_cons (pv 0) pa_nil)) pe_int (nomark _)) (pw_or1 (pt_not (pt_val (pe_callB call_isk (by rfl) T.z_isinstance (by decide +kernel) (pa_cons (pe_ix ix_tup (pv 0) pe_int (fun _ _ => rfl)) (pa_cons (pe_bltn (v := .ty "str") (by rfl) T.z_str (by decide +kernel) rfl) pa_nil)))))))))
  (pss_one (ps_ret pe_bl)) pss_nil)
 (pss_cons (ps_set (i := 3) scis_tree_at.nd rfl (Or.inl rfl) (pe_ix ix_tup (pv 0) pe_int (fun _ _ => rfl)))
 (pss_cons (ps_if (pt_val (pe_d D_needs_parentheses hc (hr.mono (by omega)) (by rfl) (fun _ => passN) (pa_cons (pv 3) (pa_cons (pv 1) pa_nil))))
  (pss_one (ps_ret (pe_and (pe_cmpR op_gt (pv 2) pe_int (nomark _)) (pe_one (pe_d D_is_tree_at hc (hr.mono (by omega)) (by rfl) (fun _ => passN) (pa_cons (pv 0) (pa_cons (pe_k (by rfl) T.g_WHOLE) (pa_cons (pe_op op_sub (pv 2) pe_int) pa_nil)))))))) pss_nil)
 (pss_cons (ps_if (PW.pt (pw_or (pt_cmpR op_eq (pv 3) pe_str (nomark _)) (pw_or1 (pt_cmpR op_eq (pv 3) pe_str (nomark _)))))
  (pss_one (ps_ret (pe_cmpR op_eq (pe_callB call_len_seq (by rfl) T.z_len (by decide +kernel) (pa_cons (pv 0) pa_nil)) pe_int (nomark _)))) pss_nil)
 (pss_cons (ps_if (pt_cmpR op_ne (pe_callB call_len_seq (by rfl) T.z_len (by decide +kernel) (pa_cons (pv 0) pa_nil)) pe_int (nomark _))
  (pss_one (ps_ret pe_bl)) pss_nil)
 (pss_cons (ps_if (pt_cmpR op_eq (pv 3) pe_str (nomark _))
  (pss_one (ps_ret (pe_d D_is_letter hc (hr.mono (by omega)) (by rfl) (fun _ => passN) (pa_cons (pe_ix ix_tup (pv 0) pe_int (fun _ _ => rfl)) pa_nil)))) pss_nil)
 (pss_cons (ps_if (pt_cmpR op_eq (pv 3) pe_str (nomark _))
  (pss_one (ps_ret (pe_d D_is_name hc (hr.mono (by omega)) (by rfl) (fun _ => passN) (pa_cons (pe_ix ix_tup (pv 0) pe_int (fun _ _ => rfl)) pa_nil)))) pss_nil)
 (pss_cons (ps_if (pt_cmpR (op_in_kd T.d_SIGNS_BY_KIND) (pv 3) (pe_k (by rfl) T.g_SIGNS_BY_KIND) (by rfl))
  (pss_one (ps_ret (pe_d D_is_tree_at hc (hr.mono (by omega)) (by rfl) (fun _ => passN) (pa_cons (pe_ix ix_tup (pv 0) pe_int (fun _ _ => rfl)) (pa_cons (pe_d D_place_inside hc (hr.mono (by omega)) (by rfl) (fun _ => passN) (pa_cons (pv 3) pa_nil)) (pa_cons (pv 2) pa_nil)))))) pss_nil)
 (pss_one (ps_ret (pe_and (pe_cmpR op_in_seq (pv 3) (pe_k (by rfl) T.g_LISTED) (by rfl)) (pe_one (pe_d D_are_trees_at hc (hr.mono (by omega)) (by rfl) (fun _ => passN) (pa_cons (pe_ix ix_tup (pv 0) pe_int (fun _ _ => rfl)) (pa_cons (pe_d D_place_inside hc (hr.mono (by omega)) (by rfl) (fun _ => passN) (pa_cons (pv 3) pa_nil)) (pa_cons (pv 2) pa_nil)))))))))))))))), ?_⟩
  obtain ⟨a, xs, rfl, ha⟩ := ht.tup
  have kv : kind H (.ref a) = .tup := ht.pv
  have hq := SqT.of (K := K) ha
  refine ⟨_, rfl, .ref a, "tuple", rfl, .inr (.inr (.inr (.inr (.inl rfl)))), by unfold Pv; rw [kv]; exact (fun z => nomatch z), _, rfl, ?_⟩
  rw [kv]
  refine iteB (fun c => absurd c (by decide +kernel)) (fun _ => ?_)
  refine ⟨_, rfl, a, _, rfl, .inr hq, rfl, _, rfl, ?_⟩
  refine iteB (fun c => ?_) (fun _ => ?_)
  · have c1 := of_decide_eq_true c
    injection c1 with c1
    rw [List.length_cons] at c1
    omega
  refine ⟨_, rfl, a, _, _, _, rfl, rfl, hq, atI_nat (j := 0) rfl, .str t.kind, "str", rfl, .inr (.inl rfl), (fun z => nomatch z), _, rfl, ?_⟩
  refine iteB (fun c => absurd (show (!inst "str" Kind.str) = true from c) (by decide +kernel)) (fun _ => ?_)
  refine ⟨_, rfl, a, _, _, _, rfl, rfl, hq, atI_nat (j := 0) rfl, ?_⟩
  refine ⟨_, rfl, _, rfl, t, p, rfl, _, rfl, ?_⟩
  have h1 := height_pos t
  refine iteB (fun c => ?_) (fun c => ?_)
  · have pn : p ≠ 0 := fun z => by
      rw [z] at c
      cases t <;> exact absurd c (by first | exact Bool.false_ne_true | (show ¬ decide _ = true; decide))
    rcases cond with ⟨z, _⟩ | ⟨_, c1, c2⟩
    · exact absurd z pn
    refine ⟨_, rfl, _, _, rfl, rfl, _, rfl, ?_⟩
    refine iteB (fun _ => ?_) (fun c3 => absurd (of_decide_eq_false c3) (by omega))
    exact ⟨_, rfl, _, rfl, _, _, rfl, rfl, .ref a, t, 0, r - 1, rfl, ht, hw, by decide, by decide, .inl ⟨rfl, by omega, by omega⟩, q⟩
  refine ⟨_, rfl, rfl, _, rfl, ?_⟩
  rw [kindEq]
  refine iteB (fun c2 => ?_) (fun c2 => ?_)
  · obtain rfl := non_of c2
    cases ht with
    | none h => exact iteT ⟨_, rfl, a, _, rfl, .inr (SqT.of h), rfl, q H (Same.refl H)⟩
  refine ⟨_, rfl, rfl, _, rfl, ?_⟩
  rw [kindEq]
  refine iteB (fun c3 => ?_) (fun c3 => ?_)
  · obtain rfl := emp_of c3
    cases ht with
    | empty h => exact ⟨_, rfl, a, _, rfl, .inr (SqT.of h), rfl, q H (Same.refl H)⟩
  obtain ⟨y, hy, hp⟩ := ht.part (fun z => by subst z; exact absurd (show decide (sNone = Str.ofString "none") = false from c2) (by decide +kernel)) (fun z => by subst z; exact absurd (show decide (sEmpty = Str.ofString "empty") = false from c3) (by decide +kernel))
  have hy2 := SqT.of (K := K) hy
  refine ⟨_, rfl, a, _, rfl, .inr hy2, rfl, _, rfl, ?_⟩
  refine iteB (fun c4 => absurd (show (!decide (V.int (2 : Int) = V.int 2)) = true from c4) (by decide)) (fun _ => ?_)
  refine ⟨_, rfl, rfl, _, rfl, ?_⟩
  rw [kindEq]
  refine iteB (fun c5 => ?_) (fun c5 => ?_)
  · obtain ⟨u, rfl⟩ := let_of c5
    have ey : y = .str ⟨#[u]⟩ := hp
    subst ey
    have lu : low u = true := hw
    have lu' := lu
    unfold low at lu'
    rw [Bool.and_eq_true, decide_eq_true_eq, decide_eq_true_eq] at lu'
    refine ⟨_, rfl, a, _, _, _, rfl, rfl, hy2, atI_nat (j := 1) rfl, _, rfl, (fun z => nomatch z), (fun x z => ?_), fun H' s => ?_⟩
    · injection z with z
      rw [← z]
      exact ⟨by show 1 ≤ 100000; decide, fun d hd => by
        have : d = u := by simpa using hd
        omega⟩
    · have e : isLet (.str ⟨#[u]⟩) = true := by
        show (decide (({ cps := #[u] } : Str).length = 1) && (low u && true)) = true
        rw [lu]
        rfl
      rw [e]
      exact q H' s
  refine ⟨_, rfl, rfl, _, rfl, ?_⟩
  rw [kindEq]
  refine iteB (fun c6 => ?_) (fun c6 => ?_)
  · obtain ⟨x, rfl⟩ := nam_of c6
    have ey : y = .str x := hp
    subst ey
    obtain ⟨w1, w2, w3⟩ : Tx 8 x ∧ 1 ≤ x.length ∧ x.cps.toList.all low = true := hw
    have w4 := w1.len
    refine ⟨_, rfl, a, _, _, _, rfl, rfl, hy2, atI_nat (j := 1) rfl, _, rfl, (fun z => nomatch z), (fun x' z => ?_), fun H' s => ?_⟩
    · injection z with z
      rw [← z]
      exact w1.mono (by decide)
    · have e : isNam (.str x) = true := by
        show (decide (1 ≤ x.length) && (decide (x.length ≤ 8) && x.cps.toList.all low)) = true
        rw [w3, decide_eq_true w2, decide_eq_true w4]
        rfl
      rw [e]
      exact q H' s
  obtain ⟨rs, hr1, hr2⟩ := T.i_SIGNS_BY_KIND t
  refine ⟨_, rfl, _, rs, rfl, rfl, hr1, _, rfl, ?_⟩
  rw [hr2]
  refine iteB (fun c7 => ?_) (fun c7 => ?_)
  · cases t with
    | sgn k u =>
      have hu : TrAt H y u := hp
      have hh : (Tr.sgn k u).height = u.height + 1 := rfl
      rw [hh] at cond
      exact ⟨_, rfl, a, _, _, _, rfl, rfl, hy2, atI_nat (j := 1) rfl, _, rfl, _, rfl, _, rfl, y, u, 3, r, rfl, hu, hw, by decide, by decide, .inr ⟨by decide, by omega, by omega⟩, q⟩
    | _ => exact nomatch c7
  -- the two with a list
  have fin : ∀ (b : Addr) (vs : List V) (l : List Tr), y = .ref b → H b = some (.lst vs) → TrsAt H vs l → Wfs l → 2 ≤ l.length → l.length ≤ 1000 → t.height = heights l + 1 → inV (.str t.kind) [V.str sSeq, .str sCho] = true → 1 ≤ placeIn t → placeIn t ≤ 3 →
      (tRet (tAndV (tOp (rIn K false) (tVar 3) (tC (V.ref aL))) (tCallG (spsAt m) [] (fun _ => E0) (tCons (tOp (rIxT K) (tVar 0) (tC (V.int 1))) (tCons (tCallG spPlace [] (fun _ => E0) (tCons (tVar 3) tNil)) (tCons (tVar 2) tNil))))))
      { nx := fun _ H' => Q .non H', rt := Q } [some (.ref a), some (.int p), some (.int r), some (.str t.kind)] H := by
    intro b vs l ey hb hts hwl l2 l3 hh hin q1 q3
    subst ey
    rw [hh] at cond
    refine ⟨_, rfl, aL, _, rfl, .inr (T.q_LISTED H), rfl, rfl, _, rfl, ?_⟩
    refine iteB (fun _ => ?_) (fun c8 => ?_)
    · exact ⟨_, rfl, a, _, _, _, rfl, rfl, hy2, atI_nat (j := 1) rfl, _, rfl, t, rfl, _, rfl, b, vs, l, _, r, rfl, hb, hts, hwl, l2, l3, q1, q3, by omega, by omega, q⟩
    · exact absurd (show inV (.str t.kind) [V.str sSeq, .str sCho] = false from c8) (by rw [hin]; exact Bool.noConfusion)
  cases t with
  | seq l =>
    obtain ⟨b, vs, e1, e2, e3⟩ : ∃ b vs, y = .ref b ∧ H b = some (.lst vs) ∧ TrsAt H vs l := hp
    exact fin b vs l e1 e2 e3 hw.2.2 hw.1 hw.2.1 rfl (show inV (.str sSeq) [V.str sSeq, V.str sCho] = true by decide +kernel) (show (1 : Int) ≤ 2 by decide) (show (2 : Int) ≤ 3 by decide)
  | cho l =>
    obtain ⟨b, vs, e1, e2, e3⟩ : ∃ b vs, y = .ref b ∧ H b = some (.lst vs) ∧ TrsAt H vs l := hp
    exact fin b vs l e1 e2 e3 hw.2.2 hw.1 hw.2.1 rfl (show inV (.str sCho) [V.str sSeq, V.str sCho] = true by decide +kernel) (show (1 : Int) ≤ 1 by decide) (show (1 : Int) ≤ 3 by decide)
  | none => exact absurd (show decide (sNone = Str.ofString "none") = false from c2) (by decide +kernel)
  | empty => exact absurd (show decide (sEmpty = Str.ofString "empty") = false from c3) (by decide +kernel)
  | letter u => exact absurd (show decide (sLetter = Str.ofString "letter") = false from c5) (by decide +kernel)
  | name x => exact absurd (show decide (sName = Str.ofString "name") = false from c6) (by decide +kernel)
  | sgn k u => exact nomatch c7
end
end KT

namespace KT
open PySem PySem.Spec PyProof.Rows L2 Gd
theorem ix_kd {X : Cx} {d : Addr} {es : Array DictEntry} {n : Nat} (D : KDict X.K X.w d es n) : IxR X (fun x y H Q => ∃ (z : Str) (u0 : Value) (v0 : V), x = .ref d ∧ y = .str z ∧ PySem.W.nsIn X.K d z = some (some u0) ∧ RelV v0 u0 ∧ Q v0 H) := by
  intro value slice pins s σ H x y v u Q I rx ry h hs
  obtain ⟨z, u0, v0, rfl, rfl, e, r, q⟩ := h
  cases rx
  obtain ⟨t, rfl⟩ := ry
  exact tail_any (kd_type D I) slot_dict_getitem.lookup (wpAny_getItem_of (PySem.strKind_is X.prog X.w z t) (PySem.W.mapOf_K (prog := X.prog) I.kIn D.at_ D.lit) (PySem.W.find_K D.at_ e) ⟨v0, H, I.tok _, r, q⟩) hs
def sgTx (k : Fin 3) : Str := if k = 0 then "*" else if k = 1 then "+" else "?"
def par (b : Bool) (x : Str) : Str := if b then Str.empty ++ "(" ++ x ++ ")" else x
mutual
/-- the shortest expression, without parentheses of its own -/
def wr0 : Tr → Str
  | .none => "0"
  | .empty => ""
  | .letter c => ⟨#[c]⟩
  | .name x => Str.empty ++ "<" ++ x ++ ">"
  | .sgn k u => par (needs u 3) (wr0 u) ++ sgTx k
  | .seq l => Txt.join "" (wrs l 2)
  | .cho l => Txt.join "|" (wrs l 1)
def wrs : List Tr → Int → List Str
  | [], _ => []
  | t :: l, p => par (needs t p) (wr0 t) :: wrs l p
end
def wrAt (t : Tr) (p : Int) : Str := par (needs t p) (wr0 t)
theorem wrs_len : ∀ (l : List Tr) (p : Int), (wrs l p).length = l.length
  | [], _ => rfl
  | _ :: l, p => by
    show (wrs l p).length + 1 = l.length + 1
    rw [wrs_len l p]
theorem wrs_at : ∀ {l : List Tr} {p : Int} {i : Nat} {t : Tr}, l[i]? = some t → (wrs l p)[i]? = some (wrAt t p)
  | [], _, _, _, e => nomatch e
  | u :: l, p, 0, t, e => by
    injection e with e
    subst e
    rfl
  | u :: l, p, i + 1, t, e => wrs_at (l := l) (i := i) e
theorem len_app (x y : Str) : (x ++ y).length = x.length + y.length := by rw [Gd.len_list, app_list, List.length_append, ← Gd.len_list, ← Gd.len_list]
theorem par_len (b : Bool) (x : Str) : x.length ≤ (par b x).length := by
  cases b with
  | false => exact Nat.le_refl _
  | true =>
    show x.length ≤ (Str.empty ++ "(" ++ x ++ ")").length
    rw [len_app, len_app]
    omega
theorem join_ge (sep : Str) : ∀ l : List Str, (l.map (·.length)).sum ≤ (Txt.join sep l).length := by
  intro l
  rw [join_str]
  induction l with
  | nil => exact Nat.zero_le _
  | cons x l ih =>
    cases l with
    | nil =>
      show x.length + 0 ≤ x.length
      omega
    | cons y r =>
      show x.length + ((y :: r).map (·.length)).sum ≤ (x ++ sep ++ Str.join sep (y :: r)).length
      rw [len_app, len_app]
      omega
theorem le_sum {l : List Nat} {x : Nat} (h : x ∈ l) : x ≤ l.sum := by
  induction l with
  | nil => exact absurd h List.not_mem_nil
  | cons a l ih =>
    rw [List.sum_cons]
    rcases List.mem_cons.mp h with e | e
    · omega
    · have := ih e
      omega
theorem join_part {sep : Str} {l : List Str} {i : Nat} {x : Str} (h : l[i]? = some x) : x.length ≤ (Txt.join sep l).length :=
  Nat.le_trans (le_sum (List.mem_map.mpr ⟨x, List.mem_of_getElem? h, rfl⟩)) (join_ge sep l)
def spWr (m : Nat) : Sp := fun vs H Q _ => ∃ (v : V) (t : Tr) (p : Int), vs = [v, .int p] ∧ TrAt H v t ∧ t.Wf ∧ 0 ≤ p ∧ p ≤ 3 ∧ ((p = 0 ∧ 2 * t.height ≤ m) ∨ (p ≠ 0 ∧ 2 * t.height + 1 ≤ m)) ∧ (wrAt t p).length ≤ 100000 ∧ ∀ H', Same H H' → Q (.str (wrAt t p)) H'
theorem needs0 (t : Tr) : needs t 0 = false := by cases t <;> rfl
theorem rows_wr {K : PySem.W.Frag} {m : Nat} {H : Hp} {a b : Addr} {p : Int} {t : Tr} {vs : List V} {l : List Tr} {sep : Str} {Q : VK} (ha : H a = some (.tup [.str t.kind, .ref b])) (hb : H b = some (.lst vs)) (hts : TrsAt H vs l) (hwl : Wfs l) (l3 : l.length ≤ 1000)
    (q1 : 1 ≤ placeIn t) (q3 : placeIn t ≤ 3) (hm : 2 * heights l + 1 ≤ m) (hs : sep.length ≤ 1) (hl : (Txt.join sep (wrs l (placeIn t))).length ≤ 100000) (q : ∀ H', Same H H' → Q (.str (Txt.join sep (wrs l (placeIn t)))) H') :
    (tM1 (fun x xs H_1 Q => ∃ a p, ∃ ys : List Str, x = V.str a ∧ xs = [V.ref p] ∧ (SqL K H_1 p (ys.map V.str) ∨ SqT K H_1 p (ys.map V.str)) ∧ (ys.map (·.length)).sum + ys.length * a.length ≤ 16777216 ∧ Q (V.str (Txt.join a ys)) H_1)
      (tC (V.str sep)) (tLc (iList K (tOp (rIxT K) (tVar 0) (tC (V.int 1)))) (gName 3) tYes (tCallG (spWr m) [] (fun _ => E0) (tCons (tVar 3) (tCons (tCallG spPlace [] (fun _ => E0) (tCons (tVar 2) tNil)) tNil))) [3]))
      [some (.ref a), some (.int p), some (.str t.kind), none] H Q := by
  refine ⟨⟨_, rfl⟩, _, rfl, a, _, _, _, rfl, rfl, SqT.of ha, atI_nat (j := 1) rfl, b, rfl, ⟨_, SqL.of hb⟩, fun D hD => ?_⟩
  have lv := hts.length
  have lw := wrs_len l (placeIn t)
  have z16 := sizeLine_eq
  refine lc_list (xs := vs) (fun i H' => H' D = some (.lst (((wrs l (placeIn t)).take i).map V.str)) ∧ Same H H') ⟨upd_same, fun c u h => by rw [upd_ne (ne_of_none h hD)]; exact h⟩ (fun i H' _ ⟨_, s⟩ => SqL.of (s _ _ hb)) ?_ ?_
  · rintro i x Hh hx ⟨g1, g2⟩
    obtain ⟨u, e1, e2⟩ := hts.at hx
    have hu := heights_at e1
    have wu := wrs_at (p := placeIn t) e1
    refine ⟨wipe1 _ _ _, yes_go ?_⟩
    refine ⟨_, rfl, _, rfl, t, rfl, x, u, placeIn t, rfl, e2.same g2, wfs_at hwl e1, by omega, q3, .inr ⟨by omega, by omega⟩, Nat.le_trans (join_part wu) hl, fun H' s' => ⟨_, s' _ _ g1, ?_, ?_, fun c o h => ?_⟩⟩
    · rw [List.length_map, List.length_take]
      omega
    · rw [upd_same, take_snoc wu, List.map_append]
      rfl
    · rw [upd_ne (ne_of_none h hD)]
      exact s' _ _ (g2 c o h)
  rintro H' ⟨g1, g2⟩
  rw [List.take_of_length_le (by omega)] at g1
  refine ⟨sep, D, wrs l (placeIn t), rfl, rfl, .inl (SqL.of g1), ?_, q H' g2⟩
  have h1 := join_ge sep (wrs l (placeIn t))
  have h2 : (wrs l (placeIn t)).length * sep.length ≤ 1000 * 1 := Nat.mul_le_mul (by omega) hs
  omega
section
variable {P : Program} {w : World} {K : PySem.W.Frag} {mg : Str → Option Value} {base : Heap} {aS aL : Addr} {es : Array DictEntry} {n : Nat}
abbrev swritten_at : Stmt := top 36
theorem scwritten_at : FnScope ["tree", "place", "kind", "part"] ["tree", "place"] (defScope swritten_at) := ⟨rfl, rfl, rfl, by decide +kernel, rfl, by decide +kernel, by decide +kernel⟩
theorem ok_written {f f1 f2 f3 : Addr} {fd fd1 fd2 fd3 : FuncData} {m : Nat} (F : Fun K "written_at" "written_at" swritten_at f fd) (T : Txt w K mg base aS aL es n) (v_SIGNS : ∀ k : Fin 3, ∃ u0, PySem.W.nsIn K aS (sSgn k) = some (some u0) ∧ RelV (.str (sgTx k)) u0)
    (D_needs_parentheses : Df P w K mg base CX0 1 "needs_parentheses" f1 fd1 ["kind", "place"] spNeeds) (D_place_inside : Df P w K mg base CX0 1 "place_inside" f2 fd2 ["kind"] spPlace)
    (D_written_at : Df P w K mg base CX0 (2 + m) "written_at" f3 fd3 ["tree", "place"] (spWr m)) :
    FnG P w K mg base CX0 (2 + m + 1) f fd ["tree", "place"] (spWr (m + 1)) := by
  refine okG F scwritten_at (fun vs H Q E h => ?_) (fun cdv A outer s H vs Q E hc hr h => ?_)
  · obtain ⟨v, t, p, rfl, _⟩ := h
    rfl
  obtain ⟨v, t, p, rfl, ht, hw, p0, p3, cond, hl, q⟩ := h
  refine ⟨_, (pss_cons (ps_set (i := 2) scwritten_at.nd rfl (Or.inr rfl) (pe_ix ix_tup (pv 0) pe_int (fun _ _ => rfl)))
 (pss_cons (ps_if (pt_val (pe_d D_needs_parentheses hc (hr.mono (by omega)) (by rfl) (fun _ => passN) (pa_cons (pv 2) (pa_cons (pv 1) pa_nil))))
  (pss_one (ps_ret (pe_joined (PJ.cons pe_str (PJ.cons (pe_fmt (pe_d D_written_at hc (hr.mono (by omega)) (by rfl) (fun _ => passN) (pa_cons (pv 0) (pa_cons (pe_k (by rfl) T.g_WHOLE) pa_nil)))) (PJ.cons pe_str PJ.nil)))))) pss_nil)
 (pss_cons (ps_if (pt_cmpR op_eq (pv 2) pe_str (nomark _))
  (pss_one (ps_ret (pe_ix ix_tup (pv 0) pe_int (fun _ _ => rfl)))) pss_nil)
 (pss_cons (ps_if (pt_cmpR op_eq (pv 2) pe_str (nomark _))
  (pss_one (ps_ret (pe_joined (PJ.cons pe_str (PJ.cons (pe_fmt (pe_ix ix_tup (pv 0) pe_int (fun _ _ => rfl))) (PJ.cons pe_str PJ.nil)))))) pss_nil)
 (pss_cons (ps_if (pt_cmpR (op_in_kd T.d_SIGNS_BY_KIND) (pv 2) (pe_k (by rfl) T.g_SIGNS_BY_KIND) (by rfl))
  (pss_one (ps_ret (pe_op op_add_str (pe_d D_written_at hc (hr.mono (by omega)) (by rfl) (fun _ => passN) (pa_cons (pe_ix ix_tup (pv 0) pe_int (fun _ _ => rfl)) (pa_cons (pe_d D_place_inside hc (hr.mono (by omega)) (by rfl) (fun _ => passN) (pa_cons (pv 2) pa_nil)) pa_nil))) (pe_ix (ix_kd T.d_SIGNS_BY_KIND) (pe_k (by rfl) T.g_SIGNS_BY_KIND) (pv 2) (fun _ _ => rfl))))) pss_nil)
 (pss_cons (ps_if (pt_cmpR op_eq (pv 2) pe_str (nomark _))
  (pss_one (ps_ret (pe_join pe_str (pe_lc (own := [("part", 3)]) (g := gName 3) rfl scwritten_at.nd (pi_list (pe_ix ix_tup (pv 0) pe_int (fun _ _ => rfl))) (blkOk_by (N := ["tree", "place", "kind", "part"]) (sc := defScope swritten_at) (by decide +kernel)) (fun _ _ _ _ _ => pg_name (i := 3) scwritten_at.nd rfl (Or.inl rfl)) (fun _ _ _ _ _ => pts_nil) (fun _ _ _ _ _ => (pe_d D_written_at hc (hr.mono (by omega)) (by rfl) (fun _ => passN) (pa_cons (pv 3) (pa_cons (pe_d D_place_inside hc (hr.mono (by omega)) (by rfl) (fun _ => passN) (pa_cons (pv 2) pa_nil)) pa_nil)))))))) pss_nil)
 (pss_cons (ps_if (pt_cmpR op_eq (pv 2) pe_str (nomark _))
  (pss_one (ps_ret (pe_join pe_str (pe_lc (own := [("part", 3)]) (g := gName 3) rfl scwritten_at.nd (pi_list (pe_ix ix_tup (pv 0) pe_int (fun _ _ => rfl))) (blkOk_by (N := ["tree", "place", "kind", "part"]) (sc := defScope swritten_at) (by decide +kernel)) (fun _ _ _ _ _ => pg_name (i := 3) scwritten_at.nd rfl (Or.inl rfl)) (fun _ _ _ _ _ => pts_nil) (fun _ _ _ _ _ => (pe_d D_written_at hc (hr.mono (by omega)) (by rfl) (fun _ => passN) (pa_cons (pv 3) (pa_cons (pe_d D_place_inside hc (hr.mono (by omega)) (by rfl) (fun _ => passN) (pa_cons (pv 2) pa_nil)) pa_nil)))))))) pss_nil)
 (pss_one (ps_ret (pe_ifExp (pt_cmpR op_eq (pv 2) pe_str (nomark _)) pe_str pe_str)))))))))), ?_⟩
  obtain ⟨a, xs, rfl, ha⟩ := ht.tup
  have hq := SqT.of (K := K) ha
  have z16 := sizeLine_eq
  have h1 := height_pos t
  refine ⟨_, rfl, a, _, _, _, rfl, rfl, hq, atI_nat (j := 0) rfl, ?_⟩
  refine ⟨_, rfl, _, rfl, t, p, rfl, _, rfl, ?_⟩
  have eo : (("(" : String) : Str).length = 1 := by decide +kernel
  have ec : ((")" : String) : Str).length = 1 := by decide +kernel
  have e0 : Str.empty.length = 0 := by decide +kernel
  refine iteB (fun c => ?_) (fun c => ?_)
  · have ew : wrAt t p = Str.empty ++ "(" ++ wr0 t ++ ")" := by
      unfold wrAt
      rw [c]
      rfl
    have pn : p ≠ 0 := fun z => by
      rw [z, needs0] at c
      exact nomatch c
    have e00 : wrAt t 0 = wr0 t := by
      unfold wrAt
      rw [needs0]
      rfl
    have l0 : (wr0 t).length ≤ (wrAt t p).length := par_len _ _
    rcases cond with ⟨z, _⟩ | ⟨_, c2⟩
    · exact absurd z pn
    refine ⟨_, rfl, ?_, ?_⟩
    · rw [len_app]
      show Str.empty.length + (("(" : String) : Str).length ≤ sizeLine
      omega
    refine ⟨_, rfl, .ref a, t, 0, rfl, ht, hw, by decide, by decide, .inl ⟨rfl, by omega⟩, by rw [e00]; omega, fun H' s => .inl ⟨_, rfl, by rw [e00]; omega, _, rfl, ?_, _, rfl, ?_, ?_⟩⟩
    · rw [e00, len_app, len_app]
      show Str.empty.length + (("(" : String) : Str).length + (wr0 t).length ≤ sizeLine
      omega
    · rw [e00, len_app, len_app, len_app]
      show Str.empty.length + (("(" : String) : Str).length + (wr0 t).length + ((")" : String) : Str).length ≤ sizeLine
      omega
    · rw [e00]
      have := q H' s
      rw [ew] at this
      exact this
  have ew : wrAt t p = wr0 t := by
    unfold wrAt
    rw [c]
    rfl
  rw [ew] at hl q
  refine ⟨_, rfl, rfl, _, rfl, ?_⟩
  rw [kindEq]
  refine iteB (fun c5 => ?_) (fun c5 => ?_)
  · obtain ⟨u, rfl⟩ := let_of c5
    cases ht with
    | letter h => exact ⟨_, rfl, a, _, _, _, rfl, rfl, SqT.of h, atI_nat (j := 1) rfl, q H (Same.refl H)⟩
  refine ⟨_, rfl, rfl, _, rfl, ?_⟩
  rw [kindEq]
  refine iteB (fun c6 => ?_) (fun c6 => ?_)
  · obtain ⟨x, rfl⟩ := nam_of c6
    have ea : (("<" : String) : Str).length = 1 := by decide +kernel
    have eb : ((">" : String) : Str).length = 1 := by decide +kernel
    have w4 := hw.1.len
    cases ht with
    | name h =>
      refine ⟨_, rfl, ?_, _, rfl, a, _, _, _, rfl, rfl, SqT.of h, atI_nat (j := 1) rfl, .inl ⟨_, rfl, by omega, _, rfl, ?_, _, rfl, ?_, q H (Same.refl H)⟩⟩
      · rw [len_app]
        show Str.empty.length + (("<" : String) : Str).length ≤ sizeLine
        omega
      · rw [len_app, len_app]
        show Str.empty.length + (("<" : String) : Str).length + x.length ≤ sizeLine
        omega
      · rw [len_app, len_app, len_app]
        show Str.empty.length + (("<" : String) : Str).length + x.length + ((">" : String) : Str).length ≤ sizeLine
        omega
  obtain ⟨rs, hr1, hr2⟩ := T.i_SIGNS_BY_KIND t
  refine ⟨_, rfl, _, rs, rfl, rfl, hr1, _, rfl, ?_⟩
  rw [hr2]
  refine iteB (fun c7 => ?_) (fun c7 => ?_)
  · cases t with
    | sgn k u =>
      have hh : (Tr.sgn k u).height = u.height + 1 := rfl
      rw [hh] at cond
      obtain ⟨u0, hu0, ru0⟩ := v_SIGNS k
      have hl' : (wrAt u 3 ++ sgTx k).length ≤ 100000 := hl
      rw [len_app] at hl'
      cases ht with
      | sgn h g =>
        refine ⟨_, rfl, a, _, _, _, rfl, rfl, SqT.of h, atI_nat (j := 1) rfl, _, rfl, _, rfl, _, u, 3, rfl, g, hw, by decide, by decide, .inr ⟨by decide, by omega⟩, by omega, fun H' s => ?_⟩
        exact ⟨_, rfl, _, u0, _, rfl, rfl, hu0, ru0, _, _, rfl, rfl, by omega, q H' s⟩
    | _ => exact nomatch c7
  -- the two with a list
  refine ⟨_, rfl, rfl, _, rfl, ?_⟩
  rw [kindEq]
  refine iteB (fun c8 => ?_) (fun c8 => ?_)
  · obtain ⟨l, rfl⟩ := seq_of c8
    have hh : (Tr.seq l).height = heights l + 1 := rfl
    rw [hh] at cond
    cases ht with
    | seq h1' h2' h3' => exact rows_wr (t := .seq l) h1' h2' h3' hw.2.2 hw.2.1 (show (1 : Int) ≤ 2 by decide) (show (2 : Int) ≤ 3 by decide) (by omega) (by decide +kernel) hl q
  refine ⟨_, rfl, rfl, _, rfl, ?_⟩
  rw [kindEq]
  refine iteB (fun c9 => ?_) (fun c9 => ?_)
  · obtain ⟨l, rfl⟩ := cho_of c9
    have hh : (Tr.cho l).height = heights l + 1 := rfl
    rw [hh] at cond
    cases ht with
    | cho h1' h2' h3' => exact rows_wr (t := .cho l) h1' h2' h3' hw.2.2 hw.2.1 (show (1 : Int) ≤ 1 by decide) (show (1 : Int) ≤ 3 by decide) (by omega) (by decide +kernel) hl q
  refine ⟨_, rfl, rfl, _, rfl, ?_⟩
  rw [kindEq]
  refine iteB (fun c2 => ?_) (fun c2 => ?_)
  · obtain rfl := non_of c2
    exact q H (Same.refl H)
  · have e : wr0 t = "" := by
      cases t with
      | empty => rfl
      | none => exact absurd (show decide (sNone = Str.ofString "none") = false from c2) (by decide +kernel)
      | letter u => exact absurd (show decide (sLetter = Str.ofString "letter") = false from c5) (by decide +kernel)
      | name x => exact absurd (show decide (sName = Str.ofString "name") = false from c6) (by decide +kernel)
      | sgn k u => exact nomatch c7
      | seq l => exact absurd (show decide (sSeq = Str.ofString "sequence") = false from c8) (by decide +kernel)
      | cho l => exact absurd (show decide (sCho = Str.ofString "choice") = false from c9) (by decide +kernel)
    rw [e] at q
    exact q H (Same.refl H)
end
end KT

namespace KT
open PySem L2 Gd
theorem _root_.Gd.FnG.or {P : Program} {w : World} {K : PySem.W.Frag} {mg : Str → Option Value} {base : Heap} {CX : CXT} {k : Nat} {f : Addr} {fd : FuncData} {ps : List Str} {sp sp' : Sp} (F : FnG P w K mg base CX k f fd ps sp) (G : FnG P w K mg base CX k f fd ps sp') :
    FnG P w K mg base CX k f fd ps (fun vs H Q E => sp vs H Q E ∨ sp' vs H Q E) :=
  ⟨fun vs H Q E h => h.elim (F.len vs H Q E) (G.len vs H Q E), fun A outer s H args us vs Q E hc hr e0 hb r h => h.elim (F.run A outer s H args us vs Q E hc hr e0 hb r) (G.run A outer s H args us vs Q E hc hr e0 hb r)⟩
/-- a text where a tree is asked for -/
def spNoAt : Sp := fun vs H Q _ => ∃ (x : Str) (p r : Int), vs = [.str x, .int p, .int r] ∧ Q (.bl false) H
def spIsTree : Sp := fun vs H Q _ => (∃ (v : V) (t : Tr), vs = [v] ∧ TrAt H v t ∧ t.Wf ∧ t.height ≤ 21 ∧ ∀ H', Same H H' → Q (.bl true) H') ∨ ∃ x, vs = [.str x] ∧ Q (.bl false) H
def spRequire : Sp := fun vs H Q _ => ∃ (v : V) (t : Tr), vs = [v] ∧ TrAt H v t ∧ t.Wf ∧ t.height ≤ 21 ∧ ∀ H', Same H H' → Q .non H'
def spText : Sp := fun vs H Q _ => ∃ (v : V) (t : Tr), vs = [v] ∧ TrAt H v t ∧ t.Wf ∧ t.height ≤ 21 ∧ (wr0 t).length ≤ 100000 ∧ ∀ H', Same H H' → Q (.str (wr0 t)) H'
section
variable {P : Program} {w : World} {K : PySem.W.Frag} {mg : Str → Option Value} {base : Heap} {aS aL C_T f_T : Addr} {es : Array DictEntry} {n : Nat}
abbrev sis_tree : Stmt := top 31
theorem scis_tree : FnScope ["value"] ["value"] (defScope sis_tree) := ⟨rfl, rfl, rfl, by decide +kernel, rfl, by decide +kernel, by decide +kernel⟩
theorem ok_noat {f f1 f2 f3 f4 f5 f6 : Addr} {fd fd1 fd2 fd3 fd4 fd5 fd6 : FuncData} {m : Nat} (F : Fun K "is_tree_at" "is_tree_at" sis_tree_at f fd) (T : Txt w K mg base aS aL es n)
    (D_is_letter : Df P w K mg base CX0 1 "is_letter" f1 fd1 ["value"] (spAsk isLet)) (D_is_name : Df P w K mg base CX0 2 "is_name" f2 fd2 ["value"] (spAsk isNam))
    (D_needs_parentheses : Df P w K mg base CX0 1 "needs_parentheses" f3 fd3 ["kind", "place"] spNeeds) (D_place_inside : Df P w K mg base CX0 1 "place_inside" f4 fd4 ["kind"] spPlace)
    (D_are_trees_at : Df P w K mg base CX0 (2 + 2 * m + 1) "are_trees_at" f5 fd5 ["value", "place", "room"] (spsAt m)) (D_is_tree_at : Df P w K mg base CX0 (2 + 2 * m) "is_tree_at" f6 fd6 ["value", "place", "room"] (spAt m)) :
    FnG P w K mg base CX0 (2 + 2 * m + 2) f fd ["value", "place", "room"] spNoAt := by
  refine okG (k := 2 + 2 * m + 1) F scis_tree_at (fun vs H Q E h => ?_) (fun cdv A outer s H vs Q E hc hr h => ?_)
  · obtain ⟨x, p, r, rfl, _⟩ := h
    rfl
  obtain ⟨x, p, r, rfl, q⟩ := h
  refine ⟨_, (pss_cons (ps_if (PW.pt (pw_or (pt_not (pt_val (pe_callB call_isk (by rfl) T.z_isinstance (by decide +kernel) (pa_cons (pv 0) (pa_cons (pe_bltn (v := .ty "tuple") (by rfl) T.z_tuple (by decide +kernel) rfl) pa_nil))))) (pw_or (pt_cmpR op_eq (pe_callB call_len_seq (by rfl) T.z_len (by decide +kernel) (pa_cons (pv 0) pa_nil)) pe_int (nomark _)) (pw_or1 (pt_not (pt_val (pe_callB call_isk (by rfl) T.z_isinstance (by decide +kernel) (pa_cons (pe_ix ix_tup (pv 0) pe_int (fun _ _ => rfl)) (pa_cons (pe_bltn (v := .ty "str") (by rfl) T.z_str (by decide +kernel) rfl) pa_nil)))))))))
  (pss_one (ps_ret pe_bl)) pss_nil)
 (pss_cons (ps_set (i := 3) scis_tree_at.nd rfl (Or.inl rfl) (pe_ix ix_tup (pv 0) pe_int (fun _ _ => rfl)))
 (pss_cons (ps_if (pt_val (pe_d D_needs_parentheses hc (hr.mono (by omega)) (by rfl) (fun _ => passN) (pa_cons (pv 3) (pa_cons (pv 1) pa_nil))))
  (pss_one (ps_ret (pe_and (pe_cmpR op_gt (pv 2) pe_int (nomark _)) (pe_one (pe_d D_is_tree_at hc (hr.mono (by omega)) (by rfl) (fun _ => passN) (pa_cons (pv 0) (pa_cons (pe_k (by rfl) T.g_WHOLE) (pa_cons (pe_op op_sub (pv 2) pe_int) pa_nil)))))))) pss_nil)
 (pss_cons (ps_if (PW.pt (pw_or (pt_cmpR op_eq (pv 3) pe_str (nomark _)) (pw_or1 (pt_cmpR op_eq (pv 3) pe_str (nomark _)))))
  (pss_one (ps_ret (pe_cmpR op_eq (pe_callB call_len_seq (by rfl) T.z_len (by decide +kernel) (pa_cons (pv 0) pa_nil)) pe_int (nomark _)))) pss_nil)
 (pss_cons (ps_if (pt_cmpR op_ne (pe_callB call_len_seq (by rfl) T.z_len (by decide +kernel) (pa_cons (pv 0) pa_nil)) pe_int (nomark _))
  (pss_one (ps_ret pe_bl)) pss_nil)
 (pss_cons (ps_if (pt_cmpR op_eq (pv 3) pe_str (nomark _))
  (pss_one (ps_ret (pe_d D_is_letter hc (hr.mono (by omega)) (by rfl) (fun _ => passN) (pa_cons (pe_ix ix_tup (pv 0) pe_int (fun _ _ => rfl)) pa_nil)))) pss_nil)
 (pss_cons (ps_if (pt_cmpR op_eq (pv 3) pe_str (nomark _))
  (pss_one (ps_ret (pe_d D_is_name hc (hr.mono (by omega)) (by rfl) (fun _ => passN) (pa_cons (pe_ix ix_tup (pv 0) pe_int (fun _ _ => rfl)) pa_nil)))) pss_nil)
 (pss_cons (ps_if (pt_cmpR (op_in_kd T.d_SIGNS_BY_KIND) (pv 3) (pe_k (by rfl) T.g_SIGNS_BY_KIND) (by rfl))
  (pss_one (ps_ret (pe_d D_is_tree_at hc (hr.mono (by omega)) (by rfl) (fun _ => passN) (pa_cons (pe_ix ix_tup (pv 0) pe_int (fun _ _ => rfl)) (pa_cons (pe_d D_place_inside hc (hr.mono (by omega)) (by rfl) (fun _ => passN) (pa_cons (pv 3) pa_nil)) (pa_cons (pv 2) pa_nil)))))) pss_nil)
 (pss_one (ps_ret (pe_and (pe_cmpR op_in_seq (pv 3) (pe_k (by rfl) T.g_LISTED) (by rfl)) (pe_one (pe_d D_are_trees_at hc (hr.mono (by omega)) (by rfl) (fun _ => passN) (pa_cons (pe_ix ix_tup (pv 0) pe_int (fun _ _ => rfl)) (pa_cons (pe_d D_place_inside hc (hr.mono (by omega)) (by rfl) (fun _ => passN) (pa_cons (pv 3) pa_nil)) (pa_cons (pv 2) pa_nil)))))))))))))))), ?_⟩
  refine ⟨_, rfl, .str x, "tuple", rfl, .inr (.inr (.inr (.inr (.inl rfl)))), (fun z => nomatch z), _, rfl, ?_⟩
  exact iteB (fun _ => q) (fun c => absurd (show (!inst "tuple" Kind.str) = false from c) (by decide +kernel))
theorem ok_istree {f f1 : Addr} {fd fd1 : FuncData} (F : Fun K "is_tree" "is_tree" sis_tree f fd) (T : Txt w K mg base aS aL es n)
    (D_is_tree_at : Df P w K mg base CX0 86 "is_tree_at" f1 fd1 ["value", "place", "room"] (fun vs H Q E => spAt 42 vs H Q E ∨ spNoAt vs H Q E)) : FnG P w K mg base CX0 87 f fd ["value"] spIsTree := by
  refine okG F scis_tree (fun vs H Q E h => ?_) (fun cdv A outer s H vs Q E hc hr h => ?_)
  · rcases h with ⟨v, t, rfl, _⟩ | ⟨x, rfl, _⟩ <;> rfl
  rcases h with ⟨v, t, rfl, ht, hw, hh, q⟩ | ⟨x, rfl, q⟩
  · refine ⟨_, (pss_one (ps_ret (pe_d D_is_tree_at hc (hr.mono (by omega)) (by rfl) (fun _ => passN) (pa_cons (pv 0) (pa_cons (pe_k (by rfl) T.g_WHOLE) (pa_cons (pe_k (by rfl) T.g_MOST_OPEN) pa_nil)))))), ?_⟩
    exact ⟨_, rfl, .inl ⟨v, t, 0, 20, rfl, ht, hw, by decide, by decide, .inl ⟨rfl, by omega, by omega⟩, q⟩⟩
  · refine ⟨_, (pss_one (ps_ret (pe_d D_is_tree_at hc (hr.mono (by omega)) (by rfl) (fun _ => passN) (pa_cons (pv 0) (pa_cons (pe_k (by rfl) T.g_WHOLE) (pa_cons (pe_k (by rfl) T.g_MOST_OPEN) pa_nil)))))), ?_⟩
    exact ⟨_, rfl, .inr ⟨x, 0, 20, rfl, q⟩⟩
abbrev srequire_tree : Stmt := top 34
theorem screquire_tree : FnScope ["value"] ["value"] (defScope srequire_tree) := ⟨rfl, rfl, rfl, by decide +kernel, rfl, by decide +kernel, by decide +kernel⟩
theorem ok_require {f f1 : Addr} {fd fd1 : FuncData} (F : Fun K "require_tree" "require_tree" srequire_tree f fd)
    (D_is_tree : Df P w K mg base CX0 87 "is_tree" f1 fd1 ["value"] spIsTree) : FnG P w K mg base (L2.CX P w) 88 f fd ["value"] spRequire := by
  refine okG F screquire_tree (fun vs H Q E h => ?_) (fun cdv A outer s H vs Q E hc hr h => ?_)
  · obtain ⟨v, t, rfl, _⟩ := h
    rfl
  obtain ⟨v, t, rfl, ht, hw, hh, q⟩ := h
  refine ⟨_, (pss_one (ps_if (pt_not (pt_val (pe_d D_is_tree hc (hr.mono (by omega)) (by rfl) (fun _ => passN) (pa_cons (pv 0) pa_nil))))
  (pss_one ps_never) pss_nil)), ?_⟩
  refine ⟨_, rfl, .inl ⟨v, t, rfl, ht, hw, hh, fun H' s => ⟨_, rfl, ?_⟩⟩⟩
  exact iteB (fun c => absurd c (by decide)) (fun _ => q H' s)
abbrev sexpression_text : Stmt := top 35
theorem scexpression_text : FnScope ["tree"] ["tree"] (defScope sexpression_text) := ⟨rfl, rfl, rfl, by decide +kernel, rfl, by decide +kernel, by decide +kernel⟩
theorem ok_text {f f1 f2 : Addr} {fd fd1 fd2 : FuncData} (F : Fun K "expression_text" "expression_text" sexpression_text f fd) (T : Txt w K mg base aS aL es n)
    (D_require_tree : Df P w K mg base (L2.CX P w) 88 "require_tree" f1 fd1 ["value"] spRequire) (D_written_at : Df P w K mg base CX0 44 "written_at" f2 fd2 ["tree", "place"] (spWr 42)) : FnG P w K mg base (L2.CX P w) 89 f fd ["tree"] spText := by
  refine okG F scexpression_text (fun vs H Q E h => ?_) (fun cdv A outer s H vs Q E hc hr h => ?_)
  · obtain ⟨v, t, rfl, _⟩ := h
    rfl
  obtain ⟨v, t, rfl, ht, hw, hh, hl, q⟩ := h
  refine ⟨_, (pss_cons (ps_expr (pe_d D_require_tree hc (hr.mono (by omega)) (by rfl) (fun _ => passM) (pa_cons (pv 0) pa_nil)))
 (pss_one (ps_ret (pe_d D_written_at hc (hr.mono (by omega)) (by rfl) (fun _ => passN) (pa_cons (pv 0) (pa_cons (pe_k (by rfl) T.g_WHOLE) pa_nil)))))), ?_⟩
  have e : wrAt t 0 = wr0 t := by
    unfold wrAt
    rw [needs0]
    rfl
  refine ⟨_, rfl, v, t, rfl, ht, hw, hh, fun H1 s1 => ?_⟩
  exact ⟨_, rfl, v, t, 0, rfl, ht.same s1, hw, by decide, by decide, .inl ⟨rfl, by omega⟩, by rw [e]; exact hl, fun H2 s2 => by rw [e]; exact q H2 (s1.trans s2)⟩
end
end KT

namespace KT
open PySem L2 Gd
mutual
def nd : Tr → Nat
  | .sgn _ t => nd t + 1
  | .seq l => nds l + 1
  | .cho l => nds l + 1
  | _ => 1
def nds : List Tr → Nat
  | [] => 0
  | t :: l => nd t + nds l
end
mutual
/-- the letters or the names of a tree, from left to right -/
def wo (kd : Str) : Tr → List Str
  | .letter c => if kd = sLetter then [⟨#[c]⟩] else []
  | .name x => if kd = sName then [x] else []
  | .sgn _ t => wo kd t
  | .seq l => wos kd l
  | .cho l => wos kd l
  | _ => []
def wos (kd : Str) : List Tr → List Str
  | [] => []
  | t :: l => wo kd t ++ wos kd l
end
def spWords : Sp := fun vs H Q _ => ∃ (v : V) (t : Tr) (kd : Str), vs = [v, .str kd] ∧ TrAt H v t ∧ (kd = sLetter ∨ kd = sName) ∧ nd t ≤ 1000 ∧ ∀ H' p, Same H H' → H p = none → H' p = some (.lst ((wo kd t).map V.str)) → Q (.ref p) H'
theorem nd_pos : ∀ u : Tr, 1 ≤ nd u
  | .none => Nat.le_refl _
  | .empty => Nat.le_refl _
  | .letter _ => Nat.le_refl _
  | .name _ => Nat.le_refl _
  | .sgn _ t => by show 1 ≤ nd t + 1; omega
  | .seq l => by show 1 ≤ nds l + 1; omega
  | .cho l => by show 1 ≤ nds l + 1; omega
theorem nds_len : ∀ l : List Tr, l.length ≤ nds l
  | [] => Nat.le_refl _
  | t :: l => by
    have := nds_len l
    have := nd_pos t
    show l.length + 1 ≤ nd t + nds l
    omega
theorem nds_app : ∀ l r : List Tr, nds (l ++ r) = nds l + nds r
  | [], r => by show nds r = 0 + nds r; omega
  | t :: l, r => by
    show nd t + nds (l ++ r) = nd t + nds l + nds r
    rw [nds_app l r]
    omega
theorem wos_app (kd : Str) : ∀ l r : List Tr, wos kd (l ++ r) = wos kd l ++ wos kd r
  | [], r => rfl
  | t :: l, r => by
    show wo kd t ++ wos kd (l ++ r) = (wo kd t ++ wos kd l) ++ wos kd r
    rw [wos_app kd l r, List.append_assoc]
theorem trs_append {H : Hp} : ∀ {vs ws : List V} {ts us : List Tr}, TrsAt H vs ts → TrsAt H ws us → TrsAt H (vs ++ ws) (ts ++ us)
  | _, _, _, _, .nil, h => h
  | _, _, _, _, .cons h t, k => .cons h (trs_append t k)
theorem listed_of {u : Tr} (c : inV (.str u.kind) [V.str sSeq, V.str sCho] = true) : (∃ l, u = .seq l) ∨ ∃ l, u = .cho l := by
  have no : ∀ k : _root_.Fin 3, inV (.str (sSgn k)) [V.str sSeq, V.str sCho] = false := by decide +kernel
  cases u with
  | seq l => exact .inl ⟨l, rfl⟩
  | cho l => exact .inr ⟨l, rfl⟩
  | sgn k u => exact absurd (show inV (.str (sSgn k)) [V.str sSeq, V.str sCho] = true from c) (by rw [no k]; exact Bool.false_ne_true)
  | none => exact absurd (show inV (.str sNone) [V.str sSeq, V.str sCho] = true from c) (by decide +kernel)
  | empty => exact absurd (show inV (.str sEmpty) [V.str sSeq, V.str sCho] = true from c) (by decide +kernel)
  | letter u => exact absurd (show inV (.str sLetter) [V.str sSeq, V.str sCho] = true from c) (by decide +kernel)
  | name u => exact absurd (show inV (.str sName) [V.str sSeq, V.str sCho] = true from c) (by decide +kernel)
section
variable {P : Program} {w : World} {K : PySem.W.Frag} {mg : Str → Option Value} {base : Heap} {aS aL : Addr} {es : Array DictEntry} {n : Nat}
abbrev swords_of : Stmt := top 37
theorem scwords_of : FnScope ["tree", "kind", "found", "waiting", "part"] ["tree", "kind"] (defScope swords_of) := ⟨rfl, rfl, rfl, by decide +kernel, rfl, by decide +kernel, by decide +kernel⟩
theorem ok_words {f : Addr} {fd : FuncData} (F : Fun K "words_of" "words_of" swords_of f fd) (T : Txt w K mg base aS aL es n) : FnG P w K mg base CX0 1 f fd ["tree", "kind"] spWords := by
  refine okG F scwords_of (fun vs H Q E h => ?_) (fun cdv A outer s H vs Q E hc hr h => ?_)
  · obtain ⟨v, t, kd, rfl, _⟩ := h
    rfl
  obtain ⟨v, t, kd, rfl, ht, hk, hn, q⟩ := h
  refine ⟨_, (pss_cons (ps_set (i := 2) scwords_of.nd rfl (Or.inl rfl) (pe_lst pa_nil))
 (pss_cons (ps_set (i := 3) scwords_of.nd rfl (Or.inl rfl) (pe_lst (pa_cons (pv 0) pa_nil)))
 (pss_cons (ps_while (passes_of rfl) (pt_truth (pv 3) (by intro _; rfl))
  (pss_cons (ps_set (i := 4) scwords_of.nd rfl (Or.inl rfl) (pe_bm0 PySem.F.plainAttrs_list PySem.F.slot_list_pop PySem.F.type_list_pop mt_pop (pv 3)))
 (pss_one (ps_if (pt_cmpR op_in_seq (pe_ix ix_tup (pv 4) pe_int (fun _ _ => rfl)) (pe_k (by rfl) T.g_LISTED) (by rfl))
  (pss_one (ps_expr (pe_bm PySem.F.plainAttrs_list PySem.F.slot_list_extend PySem.F.type_list_extend mt_extend (pv 3) (pa_cons (pe_revL (pe_ix ix_tup (pv 4) pe_int (fun _ _ => rfl))) pa_nil)))) (pss_one (ps_if (pt_cmpR (op_in_kd T.d_SIGNS_BY_KIND) (pe_ix ix_tup (pv 4) pe_int (fun _ _ => rfl)) (pe_k (by rfl) T.g_SIGNS_BY_KIND) (by rfl))
  (pss_one (ps_expr (pe_bm PySem.F.plainAttrs_list PySem.F.slot_list_append PySem.F.type_list_append mt_append (pv 3) (pa_cons (pe_ix ix_tup (pv 4) pe_int (fun _ _ => rfl)) pa_nil)))) (pss_one (ps_if (pt_cmpR op_eq (pe_ix ix_tup (pv 4) pe_int (fun _ _ => rfl)) (pv 1) (nomark _))
  (pss_one (ps_expr (pe_bm PySem.F.plainAttrs_list PySem.F.slot_list_append PySem.F.type_list_append mt_append (pv 2) (pa_cons (pe_ix ix_tup (pv 4) pe_int (fun _ _ => rfl)) pa_nil)))) pss_nil))))))))
 (pss_one (ps_ret (pv 2)))))), ?_⟩
  have z16 := sizeLine_eq
  refine ⟨by show 0 ≤ sizeLine; omega, fun F hF => ?_⟩
  refine ⟨_, rfl, by show 1 ≤ sizeLine; omega, fun W hW => ?_⟩
  have hWF : W ≠ F := fun z => by
    rw [z, upd_same] at hW
    exact nomatch hW
  have hW0 : H W = none := by
    rw [upd_ne hWF] at hW
    exact hW
  refine ⟨fun m σ H' => ∃ (rs : List V) (us : List Tr) (ys : List Str) (o4 : Option V), m = nds us ∧ σ = [some v, some (.str kd), some (.ref F), some (.ref W), o4] ∧ H' F = some (.lst (ys.map V.str)) ∧ H' W = some (.lst rs.reverse) ∧ TrsAt H rs us ∧ ys ++ wos kd us = wo kd t ∧ ys.length + nds us ≤ nd t ∧ Same H H',
    ⟨_, [v], [t], [], none, rfl, rfl, by rw [upd_ne hWF.symm]; exact upd_same, upd_same, .cons ht .nil, by show [] ++ (wo kd t ++ []) = _; simp, by show 0 + (nd t + 0) ≤ nd t; omega, fun c u h => by rw [upd_ne (ne_of_none h hW0), upd_ne (ne_of_none h hF)]; exact h⟩, ?_⟩
  rintro m _ H' ⟨rs, us, ys, o4, rfl, rfl, gF, gW, gT, gw, gn, gs⟩
  refine ⟨_, rfl, _, .inl ⟨_, SqL.of gW, rfl⟩, ?_⟩
  cases gT with
  | nil =>
    refine iteB (fun c => absurd c (by decide)) (fun _ => ?_)
    have : ys = wo kd t := by
      rw [← gw]
      show ys = ys ++ []
      simp
    rw [this] at gF
    exact ⟨_, rfl, q H' F gs hF gF⟩
  | @cons r rs u us hu gT =>
    have et : (!((r :: rs).reverse).isEmpty) = true := by simp
    rw [et]
    refine iteT ⟨fun σ' H2 => ∃ m', m' < nds (u :: us) ∧ ∃ (rs : List V) (us : List Tr) (ys : List Str) (o4 : Option V), m' = nds us ∧ σ' = [some v, some (.str kd), some (.ref F), some (.ref W), o4] ∧ H2 F = some (.lst (ys.map V.str)) ∧ H2 W = some (.lst rs.reverse) ∧ TrsAt H rs us ∧ ys ++ wos kd us = wo kd t ∧ ys.length + nds us ≤ nd t ∧ Same H H2, fun _ _ h => h, ?_⟩
    have eg : ((r :: rs).reverse)[((r :: rs).reverse).length - 1]? = some r := by simp
    have ed : ((r :: rs).reverse).dropLast = rs.reverse := by simp
    refine ⟨_, rfl, .inl ⟨rfl, _, SqL.of gW⟩, W, _, r, rfl, rfl, gW, eg, ?_⟩
    rw [ed]
    obtain ⟨a, xs, rfl, ha⟩ := hu.tup
    have s1 : Same H (upd H' W (.lst rs.reverse)) := fun c o h => by rw [upd_ne (ne_of_none h hW0)]; exact gs _ _ h
    have g1W : (upd H' W (.lst rs.reverse)) W = some (.lst rs.reverse) := upd_same
    have g1F : (upd H' W (.lst rs.reverse)) F = some (.lst (ys.map V.str)) := by rw [upd_ne hWF.symm]; exact gF
    generalize upd H' W (.lst rs.reverse) = H1 at s1 g1W g1F
    have en : nds (u :: us) = nd u + nds us := rfl
    have ew : wos kd (u :: us) = wo kd u ++ wos kd us := rfl
    rw [en] at gn ⊢
    rw [ew] at gw
    have hl : rs.length = us.length := gT.length
    have lus := nds_len us
    have npos := nd_pos u
    refine ⟨_, rfl, a, _, _, _, rfl, rfl, SqT.of (s1 _ _ ha), atI_nat (j := 0) rfl, aL, _, rfl, .inr (T.q_LISTED _), rfl, rfl, _, rfl, ?_⟩
    -- a list of parts
    have parts : ∀ (b : Addr) (vl : List V) (l : List Tr), H a = some (.tup [.str u.kind, .ref b]) → H b = some (.lst vl) → TrsAt H vl l → nd u = nds l + 1 → wo kd u = wos kd l →
        (tDrop (tBM K "list" rExtend (tVar 3) (tCons (tRevL K (tOp (rIxT K) (tVar 4) (tC (V.int 1)))) tNil)))
        { nx := fun σ' H2 => ∃ m', m' < nd u + nds us ∧ ∃ (rs : List V) (us : List Tr) (ys : List Str) (o4 : Option V), m' = nds us ∧ σ' = [some v, some (.str kd), some (.ref F), some (.ref W), o4] ∧ H2 F = some (.lst (ys.map V.str)) ∧ H2 W = some (.lst rs.reverse) ∧ TrsAt H rs us ∧ ys ++ wos kd us = wo kd t ∧ ys.length + nds us ≤ nd t ∧ Same H H2,
          ct := fun σ' H2 => ∃ m', m' < nd u + nds us ∧ ∃ (rs : List V) (us : List Tr) (ys : List Str) (o4 : Option V), m' = nds us ∧ σ' = [some v, some (.str kd), some (.ref F), some (.ref W), o4] ∧ H2 F = some (.lst (ys.map V.str)) ∧ H2 W = some (.lst rs.reverse) ∧ TrsAt H rs us ∧ ys ++ wos kd us = wo kd t ∧ ys.length + nds us ≤ nd t ∧ Same H H2,
          bk := fun _ H' => Q .non H', rt := Q } [some v, some (.str kd), some (.ref F), some (.ref W), some (.ref a)] H1 := by
      intro b vl l k1 k2 k3 k4 k5
      have lv := k3.length
      have ll := nds_len l
      refine ⟨_, rfl, .inl ⟨rfl, _, SqL.of g1W⟩, _, rfl, a, _, _, _, rfl, rfl, SqT.of (s1 _ _ k1), atI_nat (j := 1) rfl, b, vl, rfl, SqL.of (s1 _ _ k2), fun p hp => ?_⟩
      have pW : W ≠ p := ne_of_none g1W hp
      have pF : F ≠ p := ne_of_none g1F hp
      refine ⟨W, p, rs.reverse, vl.reverse, rfl, rfl, by rw [upd_ne pW]; exact g1W, upd_same, ?_, ?_⟩
      · rw [List.length_reverse, List.length_reverse]
        omega
      refine ⟨nds (l ++ us), ?_, vl ++ rs, l ++ us, ys, _, rfl, rfl, ?_, ?_, trs_append k3 gT, ?_, ?_, fun c o h => ?_⟩
      · rw [nds_app]
        omega
      · rw [upd_ne hWF.symm, upd_ne pF]
        exact g1F
      · rw [upd_same, List.reverse_append]
      · rw [wos_app, ← k5]
        exact gw
      · rw [nds_app]
        omega
      · rw [upd_ne (ne_of_none h hW0), upd_ne (ne_of_none (s1 _ _ h) hp)]
        exact s1 _ _ h
    refine iteB (fun c => ?_) (fun c => ?_)
    · rcases listed_of (show inV (.str u.kind) [V.str sSeq, V.str sCho] = true from c) with ⟨l, rfl⟩ | ⟨l, rfl⟩
      · cases hu with
        | seq k1 k2 k3 => exact parts _ _ l k1 k2 k3 rfl rfl
      · cases hu with
        | cho k1 k2 k3 => exact parts _ _ l k1 k2 k3 rfl rfl
    obtain ⟨r0, hr1, hr2⟩ := T.i_SIGNS_BY_KIND u
    refine ⟨_, rfl, a, _, _, _, rfl, rfl, SqT.of (s1 _ _ ha), atI_nat (j := 0) rfl, _, r0, rfl, rfl, hr1, _, rfl, ?_⟩
    rw [hr2]
    refine iteB (fun c7 => ?_) (fun c7 => ?_)
    · cases hu with
      | @sgn _ k y u k1 k2 =>
        have e1 : nd (Tr.sgn k u) = nd u + 1 := rfl
        have e2 : wo kd (Tr.sgn k u) = wo kd u := rfl
        rw [e1] at gn ⊢
        rw [e2] at gw
        refine ⟨_, rfl, .inl ⟨rfl, _, SqL.of g1W⟩, _, rfl, a, _, _, _, rfl, rfl, SqT.of (s1 _ _ k1), atI_nat (j := 1) rfl, W, _, _, rfl, rfl, g1W, by rw [List.length_reverse]; omega, ?_⟩
        refine ⟨nds (u :: us), by show nd u + nds us < _; omega, y :: rs, u :: us, ys, _, rfl, rfl, ?_, ?_, .cons k2 gT, gw, by show ys.length + (nd u + nds us) ≤ nd t; omega, fun c o h => ?_⟩
        · rw [upd_ne hWF.symm]
          exact g1F
        · rw [upd_same, List.reverse_cons]
        · rw [upd_ne (ne_of_none h hW0)]
          exact s1 _ _ h
      | none _ => exact nomatch c7
      | empty _ => exact nomatch c7
      | letter _ => exact nomatch c7
      | name _ => exact nomatch c7
      | seq _ _ _ => exact nomatch c7
      | cho _ _ _ => exact nomatch c7
    refine ⟨_, rfl, a, _, _, _, rfl, rfl, SqT.of (s1 _ _ ha), atI_nat (j := 0) rfl, _, rfl, rfl, _, rfl, ?_⟩
    rw [kindEq]
    refine iteB (fun c8 => ?_) (fun c8 => ?_)
    · have c8 := of_decide_eq_true c8
      -- the word
      have word : ∀ x : Str, H a = some (.tup [.str u.kind, .str x]) → wo kd u = [x] →
        (tDrop (tBM K "list" rAppend (tVar 2) (tCons (tOp (rIxT K) (tVar 4) (tC (V.int 1))) tNil)))
        { nx := fun σ' H2 => ∃ m', m' < nd u + nds us ∧ ∃ (rs : List V) (us : List Tr) (ys : List Str) (o4 : Option V), m' = nds us ∧ σ' = [some v, some (.str kd), some (.ref F), some (.ref W), o4] ∧ H2 F = some (.lst (ys.map V.str)) ∧ H2 W = some (.lst rs.reverse) ∧ TrsAt H rs us ∧ ys ++ wos kd us = wo kd t ∧ ys.length + nds us ≤ nd t ∧ Same H H2,
          ct := fun σ' H2 => ∃ m', m' < nd u + nds us ∧ ∃ (rs : List V) (us : List Tr) (ys : List Str) (o4 : Option V), m' = nds us ∧ σ' = [some v, some (.str kd), some (.ref F), some (.ref W), o4] ∧ H2 F = some (.lst (ys.map V.str)) ∧ H2 W = some (.lst rs.reverse) ∧ TrsAt H rs us ∧ ys ++ wos kd us = wo kd t ∧ ys.length + nds us ≤ nd t ∧ Same H H2,
          bk := fun _ H' => Q .non H', rt := Q } [some v, some (.str kd), some (.ref F), some (.ref W), some (.ref a)] H1 := by
        intro x k1 k2
        refine ⟨_, rfl, .inl ⟨rfl, _, SqL.of g1F⟩, _, rfl, a, _, _, _, rfl, rfl, SqT.of (s1 _ _ k1), atI_nat (j := 1) rfl, F, _, _, rfl, rfl, g1F, by rw [List.length_map]; omega, ?_⟩
        refine ⟨nds us, by omega, rs, us, ys ++ [x], _, rfl, rfl, ?_, ?_, gT, ?_, ?_, fun c o h => ?_⟩
        · rw [upd_same, List.map_append]
          rfl
        · rw [upd_ne hWF]
          exact g1W
        · rw [← gw, k2, List.append_assoc]
        · rw [List.length_append]
          show ys.length + 1 + nds us ≤ nd t
          omega
        · rw [upd_ne (ne_of_none h hF)]
          exact s1 _ _ h
      cases hu with
      | letter k1 => exact word _ k1 (by rw [← c8]; exact if_pos rfl)
      | name k1 => exact word _ k1 (by rw [← c8]; exact if_pos rfl)
      | none _ => rcases hk with e | e <;> (rw [e] at c8; exact absurd c8 (by decide +kernel))
      | empty _ => rcases hk with e | e <;> (rw [e] at c8; exact absurd c8 (by decide +kernel))
      | seq _ _ _ => rcases hk with e | e <;> (rw [e] at c8; exact absurd c8 (by show ¬ sSeq = _; decide +kernel))
      | cho _ _ _ => rcases hk with e | e <;> (rw [e] at c8; exact absurd c8 (by show ¬ sCho = _; decide +kernel))
      | sgn _ _ => exact nomatch c7
    · have c8 := of_decide_eq_false c8
      have e0 : wo kd u = [] := by
        cases u with
        | letter c => exact if_neg (fun z => c8 z.symm)
        | name x => exact if_neg (fun z => c8 z.symm)
        | none => rfl
        | empty => rfl
        | sgn k u => exact nomatch c7
        | seq l => exact absurd (show inV (.str sSeq) [V.str sSeq, V.str sCho] = false from c) (by decide +kernel)
        | cho l => exact absurd (show inV (.str sCho) [V.str sSeq, V.str sCho] = false from c) (by decide +kernel)
      rw [e0, List.nil_append] at gw
      exact ⟨nds us, by omega, rs, us, ys, _, rfl, rfl, g1F, g1W, gT, gw, by omega, s1⟩
end
end KT

namespace KT
open PySem L2 Gd
def isSig (c : Nat) : Bool := decide (c = 42) || (decide (c = 43) || decide (c = 63))
structure TxP (w : World) (K : PySem.W.Frag) (mg : Str → Option Value) (aK : Addr) (eK : Array DictEntry) (nK : Nat) : Prop where
  g_KINDS_BY_SIGN : ∃ u, mg "KINDS_BY_SIGN" = some u ∧ RelV (.ref aK) u
  d_KINDS_BY_SIGN : KDict K w aK eK nK
  i_KINDS_BY_SIGN : ∀ c : Nat, ∃ r, PySem.W.nsIn K aK ⟨#[c]⟩ = some r ∧ r.isSome = isSig c
  v_KINDS_BY_SIGN : ∀ k : _root_.Fin 3, ∃ u0, PySem.W.nsIn K aK (sgTx k) = some (some u0) ∧ RelV (.str (sSgn k)) u0
/-- whether a sign may stand behind another one -/
def mayF (c b : Nat) (d : Int) : Bool :=
  if isSig c then !isSig b && (!decide (b = 124) && !decide (b = 40)) else if decide (c = 40) then decide (d < 20) else if decide (c = 41) then decide (0 < d) else decide (c = 124) || (decide (c = 48) || low c)
def spMay : Sp := fun vs H Q _ => ∃ (c b : Nat) (d : Int), vs = [.str ⟨#[c]⟩, .str ⟨#[b]⟩, .int d] ∧ c < 128 ∧ ∀ H', Same H H' → Q (.bl (mayF c b d)) H'
theorem sgEq (c : Nat) (z : Str) (y : Nat) (h : z.cps.toList = [y]) : decide (V.str ⟨#[c]⟩ = V.str z) = decide (c = y) := by
  rw [str_eq, h]
  exact decide_eq_decide.mpr ⟨fun e => by injection e, fun e => by rw [e]⟩
/-- a row's tree -/
def rowT : List Tr → Tr
  | [] => .empty
  | [t] => t
  | ts => .seq ts
def groupT : List (List Tr) → Tr
  | [r] => rowT r
  | rs => .cho (rs.map rowT)
/-- what a closing row or group gives: a tree in a greater sealed part -/
def Sealed (G H : Hp) (own : Addr → Prop) (v : V) (t : Tr) (H' : Hp) : Prop := ∃ G', Same G G' ∧ Same G' H' ∧ TrAt G' v t ∧ ∀ c, G c = none → G' c ≠ none → own c ∨ H c = none
def spRow : Sp := fun vs H Q _ => ∃ (G : Hp) (b : Addr) (xs : List V) (ts : List Tr), vs = [.ref b] ∧ Same G H ∧ G b = none ∧ H b = some (.lst xs) ∧ TrsAt G xs ts ∧ ∀ v H', Same H H' → Sealed G H (· = b) v (rowT ts) H' → Q v H'
section
variable {P : Program} {w : World} {K : PySem.W.Frag} {mg : Str → Option Value} {base : Heap} {aS aL aK : Addr} {es eK : Array DictEntry} {n nK : Nat}
abbrev srow_tree : Stmt := top 28
theorem scrow_tree : FnScope ["items"] ["items"] (defScope srow_tree) := ⟨rfl, rfl, rfl, by decide +kernel, rfl, by decide +kernel, by decide +kernel⟩
theorem ok_row {f : Addr} {fd : FuncData} (F : Fun K "row_tree" "row_tree" srow_tree f fd) (T : Txt w K mg base aS aL es n) : FnG P w K mg base CX0 1 f fd ["items"] spRow := by
  refine okG F scrow_tree (fun vs H Q E h => ?_) (fun cdv A outer s H vs Q E hc hr h => ?_)
  · obtain ⟨G, b, xs, ts, rfl, _⟩ := h
    rfl
  obtain ⟨G, b, xs, ts, rfl, sG, hGb, hb, hts, q⟩ := h
  refine ⟨_, (pss_cons (ps_if (pt_cmpR op_eq (pe_callB call_len_seq (by rfl) T.z_len (by decide +kernel) (pa_cons (pv 0) pa_nil)) pe_int (nomark _))
  (pss_one (ps_ret (pe_tup (pa_cons pe_str pa_nil)))) pss_nil)
 (pss_cons (ps_if (pt_cmpR op_eq (pe_callB call_len_seq (by rfl) T.z_len (by decide +kernel) (pa_cons (pv 0) pa_nil)) pe_int (nomark _))
  (pss_one (ps_ret (pe_ix ix_list (pv 0) pe_int (fun _ _ => rfl)))) pss_nil)
 (pss_one (ps_ret (pe_tup (pa_cons pe_str (pa_cons (pv 0) pa_nil))))))), ?_⟩
  have z16 := sizeLine_eq
  have lx := hts.length
  have leq : ∀ k : Nat, decide (V.int (xs.length : Int) = V.int (k : Nat)) = decide (ts.length = k) := fun k => decide_eq_decide.mpr ⟨fun z => by injection z with z; omega, fun z => by rw [lx, z]⟩
  have up1 : ∀ {a : Addr} {o : HO}, H a = none → Same H (upd H a o) := fun {a o} h c u hc => by rw [upd_ne (ne_of_none hc h)]; exact hc
  refine ⟨_, rfl, b, xs, rfl, .inl (SqL.of hb), rfl, _, rfl, ?_⟩
  refine iteB (fun c => ?_) (fun c => ?_)
  · have e0 : ts = [] := by
      have := of_decide_eq_true c
      injection this with this
      have h0 : ts.length = 0 := by omega
      exact List.length_eq_zero_iff.mp h0
    subst e0
    refine ⟨by show 1 ≤ sizeLine; omega, fun a ha => q _ _ (up1 ha) ⟨upd G a (.tup [.str sEmpty]), fun c u h => ?_, fun c u h => ?_, .empty upd_same, fun c h1 h2 => ?_⟩⟩
    · rw [upd_ne (ne_of_none (sG _ _ h) ha)]
      exact h
    · by_cases z : c = a
      · rw [z, upd_same] at h ⊢
        exact h
      · rw [upd_ne z] at h ⊢
        exact sG _ _ h
    · by_cases z : c = a
      · rw [z]
        exact .inr ha
      · rw [upd_ne z] at h2
        exact absurd h1 h2
  refine ⟨_, rfl, b, xs, rfl, .inl (SqL.of hb), rfl, _, rfl, ?_⟩
  refine iteB (fun c1 => ?_) (fun c1 => ?_)
  · have l1 : ts.length = 1 := by
      have := of_decide_eq_true c1
      injection this with this
      omega
    obtain ⟨t, rfl⟩ := List.length_eq_one_iff.mp l1
    cases hts with
    | cons h1 h2 =>
      cases h2
      exact ⟨_, rfl, b, _, _, _, rfl, rfl, SqL.of hb, atI_nat (j := 0) rfl, q _ H (Same.refl H) ⟨G, Same.refl G, sG, h1, fun c e1 e2 => absurd e1 e2⟩⟩
  · have e2 : rowT ts = .seq ts := by
      match ts, c, c1 with
      | [], c, _ => exact absurd lx (fun z => by
          have := of_decide_eq_false c
          rw [z] at this
          exact this rfl)
      | [t], _, c1 => exact absurd lx (fun z => by
          have := of_decide_eq_false c1
          rw [z] at this
          exact this rfl)
      | _ :: _ :: _, _, _ => rfl
    refine ⟨_, rfl, by show 2 ≤ sizeLine; omega, fun a ha => q _ _ (up1 ha) ⟨upd (upd G b (.lst xs)) a (.tup [.str sSeq, .ref b]), fun c u h => ?_, fun c u h => ?_, ?_, fun c h1 h2 => ?_⟩⟩
    · rw [upd_ne (ne_of_none (sG _ _ h) ha), upd_ne (ne_of_none h hGb)]
      exact h
    · by_cases z : c = a
      · rw [z, upd_same] at h ⊢
        exact h
      · rw [upd_ne z] at h ⊢
        by_cases z2 : c = b
        · rw [z2, upd_same] at h
          rw [z2, hb]
          exact h
        · rw [upd_ne z2] at h
          exact sG _ _ h
    · rw [e2]
      have nab : b ≠ a := ne_of_none hb ha
      refine .seq upd_same (by rw [upd_ne nab]; exact upd_same) (hts.same fun c u h => ?_)
      rw [upd_ne (ne_of_none (sG _ _ h) ha), upd_ne (ne_of_none h hGb)]
      exact h
    · by_cases z : c = a
      · rw [z]
        exact .inr ha
      · rw [upd_ne z] at h2
        by_cases z2 : c = b
        · exact .inl z2
        · rw [upd_ne z2] at h2
          exact absurd h1 h2
end
end KT

namespace KT
open PySem L2 Gd
theorem sgn1 (c : Nat) (h : c < 128) : Tx 1 ⟨#[c]⟩ := ⟨Nat.le_refl _, fun d hd => by
  have : d = c := by simpa using hd
  omega⟩
theorem isLet1 (c : Nat) : isLet (.str ⟨#[c]⟩) = low c := by
  show (decide (({ cps := #[c] } : Str).length = 1) && (low c && true)) = low c
  rw [Bool.and_true]
  show (true && low c) = low c
  rw [Bool.true_and]
section
variable {P : Program} {w : World} {K : PySem.W.Frag} {mg : Str → Option Value} {base : Heap} {aS aL aK : Addr} {es eK : Array DictEntry} {n nK : Nat}
abbrev smay_follow : Stmt := top 24
theorem scmay_follow : FnScope ["mark", "before", "depth"] ["mark", "before", "depth"] (defScope smay_follow) := ⟨rfl, rfl, rfl, by decide +kernel, rfl, by decide +kernel, by decide +kernel⟩
theorem ok_may {f f1 : Addr} {fd fd1 : FuncData} (F : Fun K "may_follow" "may_follow" smay_follow f fd) (T : Txt w K mg base aS aL es n) (TP : TxP w K mg aK eK nK)
    (D_is_letter : Df P w K mg base CX0 1 "is_letter" f1 fd1 ["value"] (spAsk isLet)) : FnG P w K mg base CX0 2 f fd ["mark", "before", "depth"] spMay := by
  refine okG F scmay_follow (fun vs H Q E h => ?_) (fun cdv A outer s H vs Q E hc hr h => ?_)
  · obtain ⟨c, b, d, rfl, _⟩ := h
    rfl
  obtain ⟨c, b, d, rfl, hc8, q⟩ := h
  refine ⟨_, (pss_cons (ps_if (pt_cmpR (op_in_kd TP.d_KINDS_BY_SIGN) (pv 0) (pe_k (by rfl) TP.g_KINDS_BY_SIGN) (by rfl))
  (pss_one (ps_ret (pe_and (pe_cmpR (op_notIn_kd TP.d_KINDS_BY_SIGN) (pv 1) (pe_k (by rfl) TP.g_KINDS_BY_SIGN) (by rfl)) (pe_and (pe_cmpR op_ne (pv 1) pe_str (nomark _)) (pe_one (pe_cmpR op_ne (pv 1) pe_str (nomark _))))))) pss_nil)
 (pss_cons (ps_if (pt_cmpR op_eq (pv 0) pe_str (nomark _))
  (pss_one (ps_ret (pe_cmpR op_lt (pv 2) (pe_k (by rfl) T.g_MOST_OPEN) (nomark _)))) pss_nil)
 (pss_cons (ps_if (pt_cmpR op_eq (pv 0) pe_str (nomark _))
  (pss_one (ps_ret (pe_cmpR op_gt (pv 2) pe_int (nomark _)))) pss_nil)
 (pss_one (ps_ret (pe_or (pe_cmpR op_eq (pv 0) pe_str (nomark _)) (pe_or (pe_cmpR op_eq (pv 0) pe_str (nomark _)) (pe_one (pe_d D_is_letter hc (hr.mono (by omega)) (by rfl) (fun _ => passN) (pa_cons (pv 0) pa_nil)))))))))), ?_⟩
  obtain ⟨r, hr1, hr2⟩ := TP.i_KINDS_BY_SIGN c
  obtain ⟨r', hr1', hr2'⟩ := TP.i_KINDS_BY_SIGN b
  have e124 := fun x => sgEq x (Str.ofString "|") 124 (by decide +kernel)
  have e40 := fun x => sgEq x (Str.ofString "(") 40 (by decide +kernel)
  have e41 := fun x => sgEq x (Str.ofString ")") 41 (by decide +kernel)
  have e48 := fun x => sgEq x (Str.ofString "0") 48 (by decide +kernel)
  unfold mayF at q
  refine ⟨_, rfl, _, r, rfl, rfl, hr1, _, rfl, ?_⟩
  rw [hr2]
  refine iteB (fun c1 => ?_) (fun c1 => ?_)
  · rw [c1, if_pos rfl] at q
    refine ⟨_, rfl, _, r', rfl, rfl, hr1', _, rfl, ?_⟩
    rw [hr2']
    refine iteB (fun c2 => ?_) (fun c2 => ?_)
    · rw [c2, Bool.true_and] at q
      refine ⟨_, rfl, rfl, _, rfl, ?_⟩
      rw [e124]
      refine iteB (fun c3 => ?_) (fun c3 => ?_)
      · rw [c3, Bool.true_and] at q
        refine ⟨_, rfl, rfl, ?_⟩
        rw [e40]
        exact q H (Same.refl H)
      · rw [c3, Bool.false_and] at q
        exact q H (Same.refl H)
    · rw [c2, Bool.false_and] at q
      exact q H (Same.refl H)
  rw [c1, if_neg Bool.false_ne_true] at q
  refine ⟨_, rfl, rfl, _, rfl, ?_⟩
  rw [e40]
  refine iteB (fun c2 => ?_) (fun c2 => ?_)
  · rw [c2, if_pos rfl] at q
    exact ⟨_, rfl, _, _, rfl, rfl, q H (Same.refl H)⟩
  rw [c2, if_neg Bool.false_ne_true] at q
  refine ⟨_, rfl, rfl, _, rfl, ?_⟩
  rw [e41]
  refine iteB (fun c3 => ?_) (fun c3 => ?_)
  · rw [c3, if_pos rfl] at q
    exact ⟨_, rfl, _, _, rfl, rfl, q H (Same.refl H)⟩
  rw [c3, if_neg Bool.false_ne_true] at q
  refine ⟨_, rfl, rfl, _, rfl, ?_⟩
  rw [e124]
  refine iteB (fun c4 => ?_) (fun c4 => ?_)
  · rw [c4, Bool.true_or] at q
    exact q H (Same.refl H)
  rw [c4, Bool.false_or] at q
  refine ⟨_, rfl, rfl, _, rfl, ?_⟩
  rw [e48]
  refine iteB (fun c5 => ?_) (fun c5 => ?_)
  · rw [c5, Bool.true_or] at q
    exact q H (Same.refl H)
  rw [c5, Bool.false_or] at q
  refine ⟨_, rfl, .str ⟨#[c]⟩, rfl, (fun z => nomatch z), (fun x z => ?_), fun H' s => ?_⟩
  · injection z with z
    rw [← z]
    exact (sgn1 c hc8).mono (by decide)
  · rw [isLet1]
    exact q H' s
end
end KT

namespace KT
open PySem L2 Gd
/-- the open rows of a group: where each list stands, what it holds -/
abbrev Rows := List (Addr × List V × List Tr)
def RowsAt (G H : Hp) (rs : Rows) : Prop := ∀ r ∈ rs, G r.1 = none ∧ H r.1 = some (.lst r.2.1) ∧ TrsAt G r.2.1 r.2.2
def spGroup : Sp := fun vs H Q _ => ∃ (G : Hp) (g : Addr) (rs : Rows), vs = [.ref g] ∧ Same G H ∧ H g = some (.lst (rs.map fun r => V.ref r.1)) ∧ RowsAt G H rs ∧ (rs.map (·.1)).Nodup ∧ rs ≠ [] ∧ rs.length ≤ 1000 ∧
  ∀ v H', Same H H' → Sealed G H (· ∈ rs.map (·.1)) v (groupT (rs.map fun r => r.2.2)) H' → Q v H'
theorem group2 {l : List (List Tr)} (h : 2 ≤ l.length) : groupT l = .cho (l.map rowT) := by
  match l, h with
  | _ :: _ :: _, _ => rfl
theorem nodup_take {rs : Rows} {i : Nat} {r : Addr × List V × List Tr} (h : (rs.map (·.1)).Nodup) (e : rs[i]? = some r) (m : r.1 ∈ (rs.take i).map (·.1)) : False := by
  have e1 : (rs.map (·.1))[i]? = some r.1 := by rw [List.getElem?_map, e]; rfl
  rw [List.map_take] at m
  obtain ⟨j, hj, hm⟩ := List.getElem_of_mem m
  have hj2 := hj
  rw [List.length_take] at hj2
  have hji : j < i := by omega
  have hjl : j < (rs.map (·.1)).length := by omega
  obtain ⟨hil, hi⟩ := List.getElem?_eq_some_iff.mp e1
  have hjv : (rs.map (·.1))[j] = r.1 := by
    rw [← hm]
    simp [List.getElem_take]
  exact (List.pairwise_iff_getElem.mp h) j i hjl hil hji (hjv.trans hi.symm)
section
variable {P : Program} {w : World} {K : PySem.W.Frag} {mg : Str → Option Value} {base : Heap} {aS aL aK : Addr} {es eK : Array DictEntry} {n nK : Nat}
abbrev sgroup_tree : Stmt := top 27
theorem scgroup_tree : FnScope ["rows", "row"] ["rows"] (defScope sgroup_tree) := ⟨rfl, rfl, rfl, by decide +kernel, rfl, by decide +kernel, by decide +kernel⟩
theorem ok_group {f f1 : Addr} {fd fd1 : FuncData} (F : Fun K "group_tree" "group_tree" sgroup_tree f fd) (T : Txt w K mg base aS aL es n)
    (D_row_tree : Df P w K mg base CX0 1 "row_tree" f1 fd1 ["items"] spRow) : FnG P w K mg base CX0 2 f fd ["rows"] spGroup := by
  refine okG F scgroup_tree (fun vs H Q E h => ?_) (fun cdv A outer s H vs Q E hc hr h => ?_)
  · obtain ⟨G, g, rs, rfl, _⟩ := h
    rfl
  obtain ⟨G, g, rs, rfl, sG, hg, hrs, hnd, hne, hlen, q⟩ := h
  refine ⟨_, (pss_cons (ps_if (pt_cmpR op_eq (pe_callB call_len_seq (by rfl) T.z_len (by decide +kernel) (pa_cons (pv 0) pa_nil)) pe_int (nomark _))
  (pss_one (ps_ret (pe_d D_row_tree hc (hr.mono (by omega)) (by rfl) (fun _ => passN) (pa_cons (pe_ix ix_list (pv 0) pe_int (fun _ _ => rfl)) pa_nil)))) pss_nil)
 (pss_one (ps_ret (pe_tup (pa_cons pe_str (pa_cons (pe_lc (own := [("row", 1)]) (g := gName 1) rfl scgroup_tree.nd (pi_list (pv 0)) (blkOk_by (N := ["rows", "row"]) (sc := defScope sgroup_tree) (by decide +kernel)) (fun _ _ _ _ _ => pg_name (i := 1) scgroup_tree.nd rfl (Or.inl rfl)) (fun _ _ _ _ _ => pts_nil) (fun _ _ _ _ _ => (pe_d D_row_tree hc (hr.mono (by omega)) (by rfl) (fun _ => passN) (pa_cons (pv 1) pa_nil)))) pa_nil)))))), ?_⟩
  have z16 := sizeLine_eq
  have lm : (rs.map fun r => V.ref r.1).length = rs.length := List.length_map _
  refine ⟨_, rfl, g, _, rfl, .inl (SqL.of hg), rfl, _, rfl, ?_⟩
  refine iteB (fun c => ?_) (fun c => ?_)
  · have l1 : rs.length = 1 := by
      have := of_decide_eq_true c
      injection this with this
      omega
    obtain ⟨r, rfl⟩ := List.length_eq_one_iff.mp l1
    obtain ⟨h1, h2, h3⟩ := hrs r List.mem_cons_self
    refine ⟨_, rfl, g, _, _, _, rfl, rfl, SqL.of hg, atI_nat (j := 0) rfl, G, r.1, r.2.1, r.2.2, rfl, sG, h1, h2, h3, fun v H' sH sl => q v H' sH ?_⟩
    obtain ⟨G', a1, a2, a3, a4⟩ := sl
    exact ⟨G', a1, a2, a3, fun c e1 e2 => (a4 c e1 e2).imp (fun z => by rw [z]; exact List.mem_cons_self) id⟩
  have l2 : 2 ≤ rs.length := by
    have h0 : rs.length ≠ 0 := fun z => hne (List.length_eq_zero_iff.mp z)
    have h1 : rs.length ≠ 1 := fun z => by
      have := of_decide_eq_false c
      rw [lm, z] at this
      exact this rfl
    omega
  refine ⟨_, rfl, g, rfl, ⟨_, SqL.of hg⟩, fun D hD => ?_⟩
  have hGD : G D = none := by
    cases e : G D with
    | none => rfl
    | some o => rw [sG _ _ e] at hD; exact nomatch hD
  refine lc_list (xs := rs.map fun r => V.ref r.1) (fun i H' => ∃ G' vs', H' D = some (.lst vs') ∧ TrsAt G' vs' ((rs.take i).map fun r => rowT r.2.2) ∧ Same G G' ∧ Same G' H' ∧ Same H H' ∧ G' D = none ∧ ∀ c, G c = none → G' c ≠ none → c ∈ (rs.take i).map (·.1) ∨ H c = none)
    ⟨G, [], upd_same, .nil, Same.refl G, fun c u h => by rw [upd_ne (fun z => by rw [z, hGD] at h; exact nomatch h)]; exact sG _ _ h, fun c u h => by rw [upd_ne (ne_of_none h hD)]; exact h, hGD, fun c e1 e2 => absurd e1 e2⟩
    (fun i H' _ ⟨_, _, _, _, _, _, s, _⟩ => SqL.of (s _ _ hg)) ?_ ?_
  · rintro i x Hh hx ⟨G', vs', g1, g2, g3, g4, g5, g6, g7⟩
    rw [List.getElem?_map] at hx
    obtain ⟨r, hri, rfl⟩ : ∃ r, rs[i]? = some r ∧ x = V.ref r.1 := by
      cases e : rs[i]? with
      | none => rw [e] at hx; exact nomatch hx
      | some r => rw [e] at hx; exact ⟨r, rfl, (Option.some.inj hx).symm⟩
    obtain ⟨h1, h2, h3⟩ := hrs r (List.mem_of_getElem? hri)
    have hD1 : D ≠ r.1 := fun z => by rw [z, h2] at hD; exact nomatch hD
    have hGr : G' r.1 = none := by
      cases e : G' r.1 with
      | none => rfl
      | some o =>
        exfalso
        rcases g7 r.1 h1 (by rw [e]; exact fun z => nomatch z) with h | h
        · exact nodup_take hnd hri h
        · rw [h2] at h
          exact nomatch h
    have ilt : i < rs.length := (List.getElem?_eq_some_iff.mp hri).1
    refine ⟨wipe1 _ _ _, yes_go ?_⟩
    refine ⟨_, rfl, G', r.1, r.2.1, r.2.2, rfl, g4, hGr, g5 _ _ h2, h3.same g3, fun v H' sH sl => ?_⟩
    obtain ⟨G2, a1, a2, a3, a4⟩ := sl
    have lv := g2.length
    rw [List.length_map, List.length_take] at lv
    have hG2D : G2 D = none := by
      cases e : G2 D with
      | none => rfl
      | some o =>
        exfalso
        rcases a4 D g6 (by rw [e]; exact fun z => nomatch z) with h | h
        · exact hD1 h
        · rw [g1] at h
          exact nomatch h
    refine ⟨vs', sH _ _ g1, by omega, G2, vs' ++ [v], upd_same, ?_, g3.trans a1, fun c u h => ?_, fun c u h => ?_, hG2D, fun c e1 e2 => ?_⟩
    · rw [take_snoc hri, List.map_append]
      exact trs_append (g2.same a1) (.cons a3 .nil)
    · rw [upd_ne (fun z => by rw [z, hG2D] at h; exact nomatch h)]
      exact a2 _ _ h
    · rw [upd_ne (ne_of_none h hD)]
      exact sH _ _ (g5 _ _ h)
    · rw [take_snoc hri, List.map_append]
      cases e : G' c with
      | some o =>
        exact (g7 c e1 (by rw [e]; exact fun z => nomatch z)).imp (fun h => List.mem_append_left _ h) id
      | none =>
        rcases a4 c e e2 with h | h
        · exact .inl (List.mem_append_right _ (by rw [h]; exact List.mem_cons_self))
        · refine .inr ?_
          cases e3 : H c with
          | none => rfl
          | some o => rw [g5 _ _ e3] at h; exact nomatch h
  rintro H' ⟨G', vs', g1, g2, g3, g4, g5, g6, g7⟩
  rw [lm, List.take_length] at g2 g7
  refine ⟨by show 2 ≤ sizeLine; omega, fun a ha => q _ _ (fun c u h => by rw [upd_ne (ne_of_none (g5 _ _ h) ha)]; exact g5 _ _ h) ⟨upd (upd G' D (.lst vs')) a (.tup [.str sCho, .ref D]), fun c u h => ?_, fun c u h => ?_, ?_, fun c e1 e2 => ?_⟩⟩
  · have h' := g3 _ _ h
    rw [upd_ne (ne_of_none (g4 _ _ h') ha), upd_ne (ne_of_none h' g6)]
    exact h'
  · by_cases z : c = a
    · rw [z, upd_same] at h ⊢
      exact h
    · rw [upd_ne z] at h ⊢
      by_cases z2 : c = D
      · rw [z2, upd_same] at h
        rw [z2, g1]
        exact h
      · rw [upd_ne z2] at h
        exact g4 _ _ h
  · have e : groupT (rs.map fun r => r.2.2) = .cho (rs.map fun r => rowT r.2.2) := by
      rw [group2 (by rw [List.length_map]; exact l2), List.map_map]
      rfl
    rw [e]
    have nD : D ≠ a := ne_of_none g1 ha
    refine .cho upd_same (by rw [upd_ne nD]; exact upd_same) (g2.same fun c u h => ?_)
    rw [upd_ne (ne_of_none (g4 _ _ h) ha), upd_ne (ne_of_none h g6)]
    exact h
  · by_cases z : c = a
    · rw [z]
      refine .inr ?_
      cases e3 : H a with
      | none => rfl
      | some o => rw [g5 _ _ e3] at ha; exact nomatch ha
    · rw [upd_ne z] at e2
      by_cases z2 : c = D
      · rw [z2]
        exact .inr hD
      · rw [upd_ne z2] at e2
        exact g7 c e1 e2
end
end KT

namespace KT
open PySem L2 Gd
/-- the closing bracket of a well formed name -/
def spEnd : Sp := fun vs H Q _ => ∃ (z x : Str) (pre post : List Nat), vs = [.str z, .int (pre.length : Nat)] ∧ z.cps.toList = pre ++ 60 :: (x.cps.toList ++ 62 :: post) ∧ z.length ≤ 100000 ∧ Tx 8 x ∧ 1 ≤ x.length ∧ x.cps.toList.all low = true ∧ ∀ H', Same H H' → Q (.int ((pre.length + 1 + x.length : Nat) : Int)) H'
section
variable {P : Program} {w : World} {K : PySem.W.Frag} {mg : Str → Option Value} {base : Heap} {aS aL aK C_E f_E : Addr} {es eK : Array DictEntry} {n nK : Nat}
abbrev sname_end : Stmt := top 26
theorem scname_end : FnScope ["text", "start", "end"] ["text", "start"] (defScope sname_end) := ⟨rfl, rfl, rfl, by decide +kernel, rfl, by decide +kernel, by decide +kernel⟩
theorem ok_end {f f1 : Addr} {fd fd1 : FuncData} (F : Fun K "name_end" "name_end" sname_end f fd) (T : Txt w K mg base aS aL es n)
    (D_is_letter : Df P w K mg base CX0 1 "is_letter" f1 fd1 ["value"] (spAsk isLet)) : FnG P w K mg base (L2.CX P w) 2 f fd ["text", "start"] spEnd := by
  refine okG F scname_end (fun vs H Q E h => ?_) (fun cdv A outer s H vs Q E hc hr h => ?_)
  · obtain ⟨z, x, pre, post, rfl, _⟩ := h
    rfl
  obtain ⟨z, x, pre, post, rfl, hz, hzl, hx, hx1, hxl, q⟩ := h
  refine ⟨_, (pss_cons (ps_set (i := 2) scname_end.nd rfl (Or.inl rfl) (pe_op op_add (pv 1) pe_int))
 (pss_cons (ps_while (passes_of rfl) (PW.pt (pw_and (pt_cmpR op_lt (pv 2) (pe_callB call_len_str (by rfl) T.z_len (by decide +kernel) (pa_cons (pv 0) pa_nil)) (nomark _)) (pw_and (pt_cmpR op_le (pe_op op_sub (pv 2) (pv 1)) (pe_k (by rfl) T.g_LONGEST_NAME) (nomark _)) (pw_and1 (pt_val (pe_d D_is_letter hc (hr.mono (by omega)) (by rfl) (fun _ => passN) (pa_cons (pe_ix ix_str (pv 0) (pv 2) (fun _ _ => rfl)) pa_nil)))))))
  (pss_one (ps_aug (i := 2) scname_end.nd rfl (Or.inl rfl) pe_int ip_add)))
 (pss_cons (ps_if (PW.pt (pw_or (pt_cmpR op_eq (pv 2) (pe_op op_add (pv 1) pe_int) (nomark _)) (pw_or (pt_cmpR op_eq (pv 2) (pe_callB call_len_str (by rfl) T.z_len (by decide +kernel) (pa_cons (pv 0) pa_nil)) (nomark _)) (pw_or1 (pt_cmpR op_ne (pe_ix ix_str (pv 0) (pv 2) (fun _ _ => rfl)) pe_str (nomark _))))))
  (pss_one ps_never) pss_nil)
 (pss_one (ps_ret (pv 2)))))), ?_⟩
  have z16 := sizeLine_eq
  refine ⟨_, rfl, _, _, rfl, rfl, ?_⟩
  have lz : z.length = pre.length + 1 + x.length + 1 + post.length := by
    rw [Gd.len_list, hz, List.length_append, List.length_cons, List.length_append, List.length_cons, ← Gd.len_list]
    omega
  have hx8 := hx.len
  have at' : ∀ j : Nat, z.cps.toList[pre.length + 1 + j]? = (x.cps.toList ++ 62 :: post)[j]? := fun j => by
    rw [hz, List.getElem?_append_right (by omega)]
    have : pre.length + 1 + j - pre.length = j + 1 := by omega
    rw [this, List.getElem?_cons_succ]
  have lxl : x.cps.toList.length = x.length := (Gd.len_list x).symm
  have stop : ∀ H', Same H H' → (tSeq
                  (tIfS
                    (tOr (tTest (tOp rEq (tVar 2) (tOp (rI0 fun i j => V.int (i + j)) (tVar 1) (tC (V.int 1)))))
                      (tOr
                        (tTest
                          (tOp rEq (tVar 2)
                            (tCB (fun xs H Q => ∃ z, xs = [V.str z] ∧ z.length ≤ sizeLine ∧ Q (V.int ↑z.length) H)
                              (tCons (tVar 0) tNil))))
                        (tTest (tOp rNe (tOp rIxS (tVar 0) (tVar 2)) (tC (V.str (Str.ofString ">")))))))
                    tNever tNext)
                  (tRet (tVar 2))) { nx := fun _ H' => Q .non H', rt := Q } [some (.str z), some (.int (pre.length : Nat)), some (.int ((pre.length + 1 + x.length : Nat) : Int))] H' := by
    intro H' s
    refine ⟨_, rfl, _, rfl, _, _, rfl, rfl, rfl, _, rfl, ?_⟩
    refine iteB (fun c => ?_) (fun _ => ?_)
    · have c1 := of_decide_eq_true c
      injection c1 with c1
      omega
    refine ⟨_, rfl, _, rfl, z, rfl, by omega, rfl, _, rfl, ?_⟩
    refine iteB (fun c => ?_) (fun _ => ?_)
    · have c1 := of_decide_eq_true c
      injection c1 with c1
      omega
    have e62 : atI z.cps.toList ((pre.length + 1 + x.length : Nat) : Int) = some 62 := atI_nat (by
      rw [at' x.length, List.getElem?_append_right (by omega), lxl, Nat.sub_self]
      rfl)
    refine ⟨_, rfl, _, rfl, _, _, 62, rfl, rfl, by omega, e62, rfl, _, rfl, ?_⟩
    refine iteB (fun c => absurd c (by decide +kernel)) (fun _ => ?_)
    exact ⟨_, rfl, q H' s⟩
  refine ⟨fun m σ H' => ∃ j : Nat, m = x.length - j ∧ j ≤ x.length ∧ σ = [some (.str z), some (.int (pre.length : Nat)), some (.int ((pre.length + 1 + j : Nat) : Int))] ∧ Same H H', ⟨x.length - 0, 0, rfl, by omega, rfl, Same.refl H⟩, ?_⟩
  rintro m _ H' ⟨j, rfl, hj, rfl, s⟩
  refine ⟨_, rfl, _, rfl, z, rfl, by omega, _, _, rfl, rfl, _, rfl, ?_⟩
  refine iteB (fun _ => ?_) (fun c => absurd (of_decide_eq_false c) (by omega))
  refine ⟨_, rfl, _, rfl, _, _, rfl, rfl, _, _, rfl, rfl, _, rfl, ?_⟩
  rcases Nat.lt_or_ge j x.length with hlt | hge
  · refine iteB (fun _ => ?_) (fun c => absurd (of_decide_eq_false c) (by omega))
    obtain ⟨c0, hc0, hm⟩ : ∃ c0, x.cps.toList[j]? = some c0 ∧ c0 ∈ x.cps.toList := ⟨_, List.getElem?_eq_getElem (by omega), List.getElem_mem _⟩
    have ec : atI z.cps.toList ((pre.length + 1 + j : Nat) : Int) = some c0 := atI_nat (by rw [at' j, List.getElem?_append_left (by omega)]; exact hc0)
    have lo : low c0 = true := List.all_eq_true.mp hxl c0 hm
    refine ⟨_, rfl, _, rfl, _, _, c0, rfl, rfl, by omega, ec, _, rfl, (fun z => nomatch z), (fun y e => ?_), fun H2 s2 => ⟨_, rfl, ?_⟩⟩
    · injection e with e
      rw [← e]
      exact (sgn1 c0 (hx.asc c0 hm)).mono (by decide)
    rw [isLet1, lo]
    refine iteT ⟨fun σ' H3 => ∃ m', m' < x.length - j ∧ ∃ j : Nat, m' = x.length - j ∧ j ≤ x.length ∧ σ' = [some (.str z), some (.int (pre.length : Nat)), some (.int ((pre.length + 1 + j : Nat) : Int))] ∧ Same H H3, fun _ _ h => h, ?_⟩
    refine ⟨_, rfl, _, _, rfl, rfl, x.length - (j + 1), by omega, j + 1, rfl, by omega, ?_, s.trans s2⟩
    show [some (V.str z), some (V.int (pre.length : Nat)), some (V.int (((pre.length + 1 + j : Nat) : Int) + 1))] = _
    rw [show (((pre.length + 1 + j : Nat) : Int) + 1) = ((pre.length + 1 + (j + 1) : Nat) : Int) by omega]
  · have ej : j = x.length := by omega
    subst ej
    refine iteB (fun _ => ?_) (fun _ => ?_)
    · have e62 : atI z.cps.toList ((pre.length + 1 + x.length : Nat) : Int) = some 62 := atI_nat (by
        rw [at' x.length, List.getElem?_append_right (by omega), lxl, Nat.sub_self]
        rfl)
      refine ⟨_, rfl, _, rfl, _, _, 62, rfl, rfl, by omega, e62, _, rfl, (fun z => nomatch z), (fun y e => ?_), fun H2 s2 => ⟨_, rfl, ?_⟩⟩
      · injection e with e
        rw [← e]
        exact (sgn1 62 (by decide)).mono (by decide)
      rw [isLet1]
      exact iteB (fun c => absurd c (by decide)) (fun _ => stop H2 (s.trans s2))
    · exact iteB (fun c => absurd c (by decide)) (fun _ => stop H' s)
end
end KT

namespace KT
open PySem L2 Gd
mutual
/-- names replaced by trees -/
def rep (tb : Str → Option Tr) : Tr → Tr
  | .name x => (tb x).getD (.name x)
  | .sgn k u => .sgn k (rep tb u)
  | .seq l => .seq (reps tb l)
  | .cho l => .cho (reps tb l)
  | .none => .none
  | .empty => .empty
  | .letter c => .letter c
def reps (tb : Str → Option Tr) : List Tr → List Tr
  | [] => []
  | t :: l => rep tb t :: reps tb l
end
mutual
theorem rep_none : ∀ t : Tr, rep (fun _ => Option.none) t = t
  | .none => rfl
  | .empty => rfl
  | .letter _ => rfl
  | .name _ => rfl
  | .sgn k u => by show Tr.sgn k (rep _ u) = _; rw [rep_none u]
  | .seq l => by show Tr.seq (reps _ l) = _; rw [reps_none l]
  | .cho l => by show Tr.cho (reps _ l) = _; rw [reps_none l]
theorem reps_none : ∀ l : List Tr, reps (fun _ => Option.none) l = l
  | [] => rfl
  | t :: l => by show rep _ t :: reps _ l = _; rw [rep_none t, reps_none l]
end
theorem reps_len (tb : Str → Option Tr) : ∀ l : List Tr, (reps tb l).length = l.length
  | [] => rfl
  | t :: l => by show (reps tb l).length + 1 = l.length + 1; rw [reps_len tb l]
theorem reps_at {tb : Str → Option Tr} : ∀ {l : List Tr} {i : Nat} {t : Tr}, l[i]? = some t → (reps tb l)[i]? = some (rep tb t)
  | [], _, _, e => nomatch e
  | u :: l, 0, t, e => by
    injection e with e
    subst e
    rfl
  | u :: l, i + 1, t, e => reps_at (l := l) (i := i) e
/-- a table of trees, in the heap and told -/
def TabAt (G : Hp) (kvs : List (Key × V)) (tb : Str → Option Tr) (hb : Nat) : Prop :=
  ∀ x : Str, (valV kvs (Sum.inr x) = none ∧ tb x = none) ∨ ∃ y u, valV kvs (Sum.inr x) = some y ∧ tb x = some u ∧ TrAt G y u ∧ u.Wf ∧ u.height ≤ hb
theorem TabAt.same {G G' : Hp} {kvs : List (Key × V)} {tb : Str → Option Tr} {hb : Nat} (s : Same G G') (h : TabAt G kvs tb hb) : TabAt G' kvs tb hb := fun x =>
  (h x).imp id fun ⟨y, u, a, b, c, d⟩ => ⟨y, u, a, b, c.same s, d⟩
def spRep (m : Nat) : Sp := fun vs H Q _ => ∃ (G : Hp) (v : V) (t : Tr) (d : Addr) (kvs : List (Key × V)) (tb : Str → Option Tr) (hb : Nat), vs = [v, .ref d] ∧ Same G H ∧ TrAt G v t ∧ t.Wf ∧ H d = some (.dK kvs) ∧ TabAt G kvs tb hb ∧ t.height + hb ≤ m ∧
  ∀ v' H', Same H H' → Sealed G H (fun _ => False) v' (rep tb t) H' → Q v' H'
section
variable {P : Program} {w : World} {K : PySem.W.Frag} {mg : Str → Option Value} {base : Heap} {aS aL aK : Addr} {es eK : Array DictEntry} {n nK : Nat}
abbrev sreplaced : Stmt := top 42
theorem screplaced : FnScope ["tree", "table", "kind", "part"] ["tree", "table"] (defScope sreplaced) := ⟨rfl, rfl, rfl, by decide +kernel, rfl, by decide +kernel, by decide +kernel⟩
theorem ok_replaced {f f1 : Addr} {fd fd1 : FuncData} {m : Nat} (F : Fun K "replaced" "replaced" sreplaced f fd) (T : Txt w K mg base aS aL es n)
    (D_replaced : Df P w K mg base CX0 m "replaced" f1 fd1 ["tree", "table"] (spRep m)) : FnG P w K mg base CX0 (m + 1) f fd ["tree", "table"] (spRep (m + 1)) := by
  refine okG F screplaced (fun vs H Q E h => ?_) (fun cdv A outer s H vs Q E hc hr h => ?_)
  · obtain ⟨G, v, t, d, kvs, tb, hb, rfl, _⟩ := h
    rfl
  obtain ⟨G, v, t, d, kvs, tb, hb, rfl, sG, ht, hw, hd, htb, hm, q⟩ := h
  refine ⟨_, (pss_cons (ps_set (i := 2) screplaced.nd rfl (Or.inl rfl) (pe_ix ix_tup (pv 0) pe_int (fun _ _ => rfl)))
 (pss_cons (ps_if (PW.pt (pw_and (pt_cmpR op_eq (pv 2) pe_str (nomark _)) (pw_and1 (pt_cmp (pc_din (hu_of hr) (pe_ix ix_tup (pv 0) pe_int (fun _ _ => rfl)) (pv 1))))))
  (pss_one (ps_ret (pe_d D_replaced hc (hr.mono (by omega)) (by rfl) (fun _ => passN) (pa_cons (pe_dget (hu_of hr) (pv 1) (pe_ix ix_tup (pv 0) pe_int (fun _ _ => rfl)) (fun _ _ => rfl)) (pa_cons pe_dnewK pa_nil))))) pss_nil)
 (pss_cons (ps_if (pt_cmpR (op_in_kd T.d_SIGNS_BY_KIND) (pv 2) (pe_k (by rfl) T.g_SIGNS_BY_KIND) (by rfl))
  (pss_one (ps_ret (pe_tup (pa_cons (pv 2) (pa_cons (pe_d D_replaced hc (hr.mono (by omega)) (by rfl) (fun _ => passN) (pa_cons (pe_ix ix_tup (pv 0) pe_int (fun _ _ => rfl)) (pa_cons (pv 1) pa_nil))) pa_nil))))) pss_nil)
 (pss_cons (ps_if (pt_cmpR op_in_seq (pv 2) (pe_k (by rfl) T.g_LISTED) (by rfl))
  (pss_one (ps_ret (pe_tup (pa_cons (pv 2) (pa_cons (pe_lc (own := [("part", 3)]) (g := gName 3) rfl screplaced.nd (pi_list (pe_ix ix_tup (pv 0) pe_int (fun _ _ => rfl))) (blkOk_by (N := ["tree", "table", "kind", "part"]) (sc := defScope sreplaced) (by decide +kernel)) (fun _ _ _ _ _ => pg_name (i := 3) screplaced.nd rfl (Or.inl rfl)) (fun _ _ _ _ _ => pts_nil) (fun _ _ _ _ _ => (pe_d D_replaced hc (hr.mono (by omega)) (by rfl) (fun _ => passN) (pa_cons (pv 3) (pa_cons (pv 1) pa_nil))))) pa_nil))))) pss_nil)
 (pss_one (ps_ret (pv 0))))))), ?_⟩
  have z16 := sizeLine_eq
  obtain ⟨a, xs, rfl, ha0⟩ := ht.tup
  have ha := sG _ _ ha0
  have hq := SqT.of (K := K) ha
  have self : rep tb t = t → Q (.ref a) H := fun e => q _ H (Same.refl H) ⟨G, Same.refl G, sG, by rw [e]; exact ht, fun c e1 e2 => absurd e1 e2⟩
  refine ⟨_, rfl, a, _, _, _, rfl, rfl, hq, atI_nat (j := 0) rfl, ?_⟩
  refine ⟨_, rfl, rfl, _, rfl, ?_⟩
  rw [kindEq]
  -- behind the test of a name
  have rest : (∀ x, t = .name x → tb x = none) → (tSeq
      (tIfS (tTest (tOp (fun x y H_1 Q => ∃ z r, x = V.str z ∧ y = V.ref aS ∧ PySem.W.nsIn K aS z = some r ∧ Q (V.bl r.isSome) H_1) (tVar 2) (tC (V.ref aS))))
        (tRet (tTup (tCons (tVar 2) (tCons (tCallG (spRep m) [] (fun _ => E0) (tCons (tOp (rIxT K) (tVar 0) (tC (V.int 1))) (tCons (tVar 1) tNil))) tNil)))) tNext)
      (tSeq (tIfS (tTest (tOp (rIn K false) (tVar 2) (tC (V.ref aL))))
          (tRet (tTup (tCons (tVar 2) (tCons (tLc (iList K (tOp (rIxT K) (tVar 0) (tC (V.int 1)))) (gName 3) tYes (tCallG (spRep m) [] (fun _ => E0) (tCons (tVar 3) (tCons (tVar 1) tNil))) [3]) tNil)))) tNext)
        (tRet (tVar 0)))) { nx := fun _ H' => Q .non H', rt := Q } [some (.ref a), some (.ref d), some (.str t.kind), none] H := by
    intro hno
    obtain ⟨rs, hr1, hr2⟩ := T.i_SIGNS_BY_KIND t
    refine ⟨_, rfl, _, rs, rfl, rfl, hr1, _, rfl, ?_⟩
    rw [hr2]
    refine iteB (fun c7 => ?_) (fun c7 => ?_)
    · cases t with
      | sgn k u =>
        have hh : (Tr.sgn k u).height = u.height + 1 := rfl
        rw [hh] at hm
        cases ht with
        | sgn h g =>
          refine ⟨_, rfl, _, rfl, a, _, _, _, rfl, rfl, SqT.of (sG _ _ h), atI_nat (j := 1) rfl, _, rfl, G, _, u, d, kvs, tb, hb, rfl, sG, g, hw, hd, htb, by omega, fun v' H' sH sl => ⟨by show 2 ≤ sizeLine; omega, fun b hb' => ?_⟩⟩
          obtain ⟨G', a1, a2, a3, a4⟩ := sl
          refine q _ _ (fun c o h => by rw [upd_ne (ne_of_none (sH _ _ h) hb')]; exact sH _ _ h) ⟨upd G' b (.tup [.str (sSgn k), v']), fun c o h => ?_, fun c o h => ?_, .sgn upd_same (a3.same fun c o h => ?_), fun c e1 e2 => ?_⟩
          · rw [upd_ne (ne_of_none (a2 _ _ (a1 _ _ h)) hb')]
            exact a1 _ _ h
          · by_cases z : c = b
            · rw [z, upd_same] at h ⊢
              exact h
            · rw [upd_ne z] at h ⊢
              exact a2 _ _ h
          · rw [upd_ne (ne_of_none (a2 _ _ h) hb')]
            exact h
          · by_cases z : c = b
            · rw [z]
              refine .inr ?_
              cases e3 : H b with
              | none => rfl
              | some o => rw [sH _ _ e3] at hb'; exact nomatch hb'
            · rw [upd_ne z] at e2
              exact a4 c e1 e2
      | _ => exact nomatch c7
    refine ⟨_, rfl, aL, _, rfl, .inr (T.q_LISTED H), rfl, rfl, _, rfl, ?_⟩
    have lists : ∀ (b : Addr) (vl : List V) (l : List Tr), G a = some (.tup [.str t.kind, .ref b]) → G b = some (.lst vl) → TrsAt G vl l → Wfs l → l.length ≤ 1000 → t.height = heights l + 1 →
        (∀ (G' : Hp) (a' D : Addr) (vs' : List V), G' a' = some (.tup [.str t.kind, .ref D]) → G' D = some (.lst vs') → TrsAt G' vs' (reps tb l) → TrAt G' (.ref a') (rep tb t)) →
        (tRet (tTup (tCons (tVar 2) (tCons (tLc (iList K (tOp (rIxT K) (tVar 0) (tC (V.int 1)))) (gName 3) tYes (tCallG (spRep m) [] (fun _ => E0) (tCons (tVar 3) (tCons (tVar 1) tNil))) [3]) tNil)))) { nx := fun _ H' => Q .non H', rt := Q } [some (.ref a), some (.ref d), some (.str t.kind), none] H := by
      intro b vl l k1 k2 k3 hwl l3 hh mk
      rw [hh] at hm
      have lv := k3.length
      refine ⟨_, rfl, _, rfl, a, _, _, _, rfl, rfl, SqT.of (sG _ _ k1), atI_nat (j := 1) rfl, b, rfl, ⟨_, SqL.of (sG _ _ k2)⟩, fun D hD => ?_⟩
      have hGD : G D = none := by
        cases e : G D with
        | none => rfl
        | some o => rw [sG _ _ e] at hD; exact nomatch hD
      refine lc_list (xs := vl) (fun i H' => ∃ G' vs', H' D = some (.lst vs') ∧ TrsAt G' vs' ((reps tb l).take i) ∧ Same G G' ∧ Same G' H' ∧ Same H H' ∧ G' D = none ∧ ∀ c, G c = none → G' c ≠ none → H c = none)
        ⟨G, [], upd_same, .nil, Same.refl G, fun c u h => by rw [upd_ne (fun z => by rw [z, hGD] at h; exact nomatch h)]; exact sG _ _ h, fun c u h => by rw [upd_ne (ne_of_none h hD)]; exact h, hGD, fun c e1 e2 => absurd e1 e2⟩
        (fun i H' _ ⟨_, _, _, _, _, _, s, _⟩ => SqL.of (s _ _ (sG _ _ k2))) ?_ ?_
      · rintro i x Hh hx ⟨G', vs', g1, g2, g3, g4, g5, g6, g7⟩
        obtain ⟨u, e1, e2⟩ := k3.at hx
        have hu := heights_at e1
        have ilt : i < vl.length := (List.getElem?_eq_some_iff.mp hx).1
        refine ⟨wipe1 _ _ _, yes_go ?_⟩
        refine ⟨_, rfl, _, rfl, G', x, u, d, kvs, tb, hb, rfl, g4, e2.same g3, wfs_at hwl e1, g5 _ _ hd, htb.same g3, by omega, fun v' H' sH sl => ?_⟩
        obtain ⟨G2, a1, a2, a3, a4⟩ := sl
        have l2 := g2.length
        rw [List.length_take, reps_len] at l2
        have hG2D : G2 D = none := by
          cases e : G2 D with
          | none => rfl
          | some o =>
            exfalso
            rcases a4 D g6 (by rw [e]; exact fun z => nomatch z) with h | h
            · exact h
            · rw [g1] at h
              exact nomatch h
        refine ⟨vs', sH _ _ g1, by omega, G2, vs' ++ [v'], upd_same, ?_, g3.trans a1, fun c u h => ?_, fun c u h => ?_, hG2D, fun c e1 e2 => ?_⟩
        · rw [take_snoc (reps_at e1)]
          exact trs_append (g2.same a1) (.cons a3 .nil)
        · rw [upd_ne (fun z => by rw [z, hG2D] at h; exact nomatch h)]
          exact a2 _ _ h
        · rw [upd_ne (ne_of_none h hD)]
          exact sH _ _ (g5 _ _ h)
        · cases e : G' c with
          | some o => exact g7 c e1 (by rw [e]; exact fun z => nomatch z)
          | none =>
            rcases a4 c e e2 with h | h
            · exact h.elim
            · cases e3 : H c with
              | none => rfl
              | some o => rw [g5 _ _ e3] at h; exact nomatch h
      rintro H' ⟨G', vs', g1, g2, g3, g4, g5, g6, g7⟩
      rw [List.take_of_length_le (by rw [reps_len]; omega)] at g2
      refine ⟨by show 2 ≤ sizeLine; omega, fun a' ha' => q _ _ (fun c u h => by rw [upd_ne (ne_of_none (g5 _ _ h) ha')]; exact g5 _ _ h) ⟨upd (upd G' D (.lst vs')) a' (.tup [.str t.kind, .ref D]), fun c u h => ?_, fun c u h => ?_, ?_, fun c e1 e2 => ?_⟩⟩
      · have h' := g3 _ _ h
        rw [upd_ne (ne_of_none (g4 _ _ h') ha'), upd_ne (ne_of_none h' g6)]
        exact h'
      · by_cases z : c = a'
        · rw [z, upd_same] at h ⊢
          exact h
        · rw [upd_ne z] at h ⊢
          by_cases z2 : c = D
          · rw [z2, upd_same] at h
            rw [z2, g1]
            exact h
          · rw [upd_ne z2] at h
            exact g4 _ _ h
      · have nD : D ≠ a' := ne_of_none g1 ha'
        refine mk _ a' D vs' upd_same (by rw [upd_ne nD]; exact upd_same) (g2.same fun c u h => ?_)
        rw [upd_ne (ne_of_none (g4 _ _ h) ha'), upd_ne (ne_of_none h g6)]
        exact h
      · refine .inr ?_
        by_cases z : c = a'
        · rw [z]
          cases e3 : H a' with
          | none => rfl
          | some o => rw [g5 _ _ e3] at ha'; exact nomatch ha'
        · rw [upd_ne z] at e2
          by_cases z2 : c = D
          · rw [z2]
            exact hD
          · rw [upd_ne z2] at e2
            exact g7 c e1 e2
    refine iteB (fun c8 => ?_) (fun c8 => ?_)
    · rcases listed_of (show inV (.str t.kind) [V.str sSeq, V.str sCho] = true from c8) with ⟨l, rfl⟩ | ⟨l, rfl⟩
      · cases ht with
        | seq h1 h2 h3 => exact lists _ _ l h1 h2 h3 hw.2.2 hw.2.1 rfl (fun _ _ _ _ p1 p2 p3 => .seq p1 p2 p3)
      · cases ht with
        | cho h1 h2 h3 => exact lists _ _ l h1 h2 h3 hw.2.2 hw.2.1 rfl (fun _ _ _ _ p1 p2 p3 => .cho p1 p2 p3)
    · refine ⟨_, rfl, self ?_⟩
      cases t with
      | none => rfl
      | empty => rfl
      | letter c => rfl
      | name x => show (tb x).getD (.name x) = _; rw [hno x rfl]; rfl
      | sgn k u => exact nomatch c7
      | seq l => exact absurd (show inV (.str sSeq) [V.str sSeq, V.str sCho] = false from c8) (by decide +kernel)
      | cho l => exact absurd (show inV (.str sCho) [V.str sSeq, V.str sCho] = false from c8) (by decide +kernel)
  refine iteB (fun c => ?_) (fun c => ?_)
  · obtain ⟨x, rfl⟩ := nam_of c
    cases ht with
    | name h =>
      refine ⟨_, rfl, a, _, _, _, rfl, rfl, SqT.of (sG _ _ h), atI_nat (j := 1) rfl, _, rfl, d, _, rfl, .inl ⟨kvs, Sum.inr x, .inl hd, rfl, rfl⟩, ?_⟩
      refine ⟨_, rfl, ?_⟩
      rcases htb x with ⟨e1, e2⟩ | ⟨y, u, e1, e2, e3, e4, e5⟩
      · rw [e1]
        exact iteB (fun c => nomatch c) (fun _ => rest fun x' e => by
          injection e with e
          rw [← e]
          exact e2)
      · rw [e1]
        refine iteT ?_
        have hh : (Tr.name x).height = 1 := rfl
        rw [hh] at hm
        refine ⟨_, rfl, _, rfl, a, _, _, _, rfl, rfl, SqT.of (sG _ _ h), atI_nat (j := 1) rfl, d, y, rfl, .inl ⟨kvs, Sum.inr x, .inl hd, rfl, e1.symm⟩, fun e he => ?_⟩
        have s1 : Same H (upd H e (.dK [])) := fun c o h => by rw [upd_ne (ne_of_none h he)]; exact h
        refine ⟨G, y, u, e, [], fun _ => none, 0, rfl, sG.trans s1, e3, e4, upd_same, fun _ => .inl ⟨rfl, rfl⟩, by omega, fun v' H' sH sl => q v' H' (s1.trans sH) ?_⟩
        obtain ⟨G', a1, a2, a3, a4⟩ := sl
        refine ⟨G', a1, a2, ?_, fun c e6 e7 => ?_⟩
        · have er : rep tb (.name x) = u := by
            show (tb x).getD (.name x) = u
            rw [e2]
            rfl
          rw [er]
          rw [rep_none] at a3
          exact a3
        · rcases a4 c e6 e7 with h | h
          · exact .inl h
          · refine .inr ?_
            by_cases z : c = e
            · rw [z]
              exact he
            · rw [upd_ne z] at h
              exact h
  · exact iteF (rest fun x e => by subst e; exact absurd (show decide (sName = Str.ofString "name") = false from c) (by decide +kernel))
end
end KT

namespace KT
open PySem L2 Gd
/-! ### the open groups of the parser -/
abbrev Grp := Addr × Rows
def addrs (gs : List Grp) : List Addr := gs.flatMap fun x => x.1 :: x.2.map (·.1)
structure StAt (G H : Hp) (A : Addr) (gs : List Grp) : Prop where
  sG : Same G H
  top : H A = some (.lst (gs.map fun x => V.ref x.1))
  grp : ∀ x ∈ gs, H x.1 = some (.lst (x.2.map fun r => V.ref r.1)) ∧ ∀ r ∈ x.2, H r.1 = some (.lst r.2.1) ∧ TrsAt G r.2.1 r.2.2
  nd : (A :: addrs gs).Nodup
  fr : ∀ c ∈ A :: addrs gs, G c = none
theorem addrs_app (gs hs : List Grp) : addrs (gs ++ hs) = addrs gs ++ addrs hs := List.flatMap_append
theorem addrs_one (g : Addr) (rs : Rows) : addrs [(g, rs)] = g :: rs.map (·.1) := by
  show (g :: rs.map (·.1)) ++ [] = _
  rw [List.append_nil]
theorem mem_addrs_g {gs : List Grp} {x : Grp} (h : x ∈ gs) : x.1 ∈ addrs gs := List.mem_flatMap.mpr ⟨x, h, List.mem_cons_self⟩
theorem mem_addrs_r {gs : List Grp} {x : Grp} {r : Addr × List V × List Tr} (h : x ∈ gs) (hr : r ∈ x.2) : r.1 ∈ addrs gs := List.mem_flatMap.mpr ⟨x, h, List.mem_cons_of_mem _ (List.mem_map.mpr ⟨r, hr, rfl⟩)⟩
section
variable {G G' H H1 : Hp} {A : Addr} {gs : List Grp}
theorem StAt.alive (S : StAt G H A gs) : ∀ c ∈ A :: addrs gs, H c ≠ none := by
  intro c hc
  rcases List.mem_cons.mp hc with rfl | hc
  · rw [S.top]
    exact fun z => nomatch z
  · obtain ⟨x, hx, hc⟩ := List.mem_flatMap.mp hc
    rcases List.mem_cons.mp hc with rfl | hc
    · rw [(S.grp x hx).1]
      exact fun z => nomatch z
    · obtain ⟨r, hr, rfl⟩ := List.mem_map.mp hc
      rw [((S.grp x hx).2 r hr).1]
      exact fun z => nomatch z
/-- the heap goes on, the sealed part grows -/
theorem StAt.go (S : StAt G H A gs) (sH : Same H H1) (sg : Same G G') (sG : Same G' H1) (fr : ∀ c ∈ A :: addrs gs, G' c = none) : StAt G' H1 A gs :=
  ⟨sG, sH _ _ S.top, fun x hx => ⟨sH _ _ (S.grp x hx).1, fun r hr => ⟨sH _ _ ((S.grp x hx).2 r hr).1, ((S.grp x hx).2 r hr).2.same sg⟩⟩, S.nd, fr⟩
/-- the last row of the last group is written -/
theorem StAt.row {g r : Addr} {rs : Rows} {vs vs' : List V} {ts ts' : List Tr} (S : StAt G H A (gs ++ [(g, rs ++ [(r, vs, ts)])])) (ht : TrsAt G vs' ts') : StAt G (upd H r (.lst vs')) A (gs ++ [(g, rs ++ [(r, vs', ts')])]) := by
  have ea : addrs (gs ++ [(g, rs ++ [(r, vs', ts')])]) = addrs (gs ++ [(g, rs ++ [(r, vs, ts)])]) := by
    rw [addrs_app, addrs_app, addrs_one, addrs_one, List.map_append, List.map_append]
    rfl
  have nd := S.nd
  rw [addrs_app, addrs_one, List.map_append] at nd
  have nd' : (A :: (addrs gs ++ (g :: (rs.map (·.1) ++ [r])))).Nodup := nd
  rw [List.nodup_cons, List.nodup_append, List.nodup_cons, List.nodup_append] at nd'
  obtain ⟨n1, n2, ⟨n3, n4, n5, n6⟩, n7⟩ := nd'
  have hAr : A ≠ r := fun z => n1 (List.mem_append_right _ (List.mem_cons_of_mem _ (List.mem_append_right _ (by rw [z]; exact List.mem_cons_self))))
  have hgr : g ≠ r := fun z => n3 (List.mem_append_right _ (by rw [z]; exact List.mem_cons_self))
  have hin : ∀ c ∈ addrs gs, c ≠ r := fun c hc => n7 c hc r (List.mem_cons_of_mem _ (List.mem_append_right _ List.mem_cons_self))
  have hrs : ∀ q ∈ rs, q.1 ≠ r := fun q hq => n6 q.1 (List.mem_map.mpr ⟨q, hq, rfl⟩) r List.mem_cons_self
  have hGr : G r = none := S.fr r (by rw [addrs_app, addrs_one, List.map_append]; exact List.mem_cons_of_mem _ (List.mem_append_right _ (List.mem_cons_of_mem _ (List.mem_append_right _ List.mem_cons_self))))
  refine ⟨fun c u h => ?_, ?_, fun x hx => ?_, by rw [ea]; exact S.nd, by rw [ea]; exact S.fr⟩
  · rw [upd_ne (fun z => by rw [z, hGr] at h; exact nomatch h)]
    exact S.sG _ _ h
  · rw [upd_ne hAr, S.top, List.map_append, List.map_append]
    rfl
  · rcases List.mem_append.mp hx with h | h
    · have hx' := S.grp x (List.mem_append_left _ h)
      refine ⟨by rw [upd_ne (hin _ (mem_addrs_g h))]; exact hx'.1, fun q hq => ⟨by rw [upd_ne (hin _ (mem_addrs_r h hq))]; exact (hx'.2 q hq).1, (hx'.2 q hq).2⟩⟩
    · obtain rfl : x = (g, rs ++ [(r, vs', ts')]) := by simpa using h
      have hx' := S.grp (g, rs ++ [(r, vs, ts)]) (List.mem_append_right _ List.mem_cons_self)
      refine ⟨?_, fun q hq => ?_⟩
      · rw [upd_ne hgr]
        show H g = some (.lst ((rs ++ [(r, vs', ts')]).map fun r => V.ref r.1))
        rw [show H g = _ from hx'.1, List.map_append, List.map_append]
        rfl
      · rcases List.mem_append.mp hq with h | h
        · have := hx'.2 q (List.mem_append_left _ h)
          exact ⟨by rw [upd_ne (hrs q h)]; exact this.1, this.2⟩
        · obtain rfl : q = (r, vs', ts') := by simpa using h
          exact ⟨upd_same, ht⟩
/-- a new row -/
theorem StAt.bar {g b : Addr} {rs : Rows} (S : StAt G H A (gs ++ [(g, rs)])) (hb : H b = none) : StAt G (upd (upd H b (.lst [])) g (.lst ((rs.map fun r => V.ref r.1) ++ [.ref b]))) A (gs ++ [(g, rs ++ [(b, [], [])])]) := by
  have al := S.alive
  have nb : ∀ c ∈ A :: addrs (gs ++ [(g, rs)]), c ≠ b := fun c hc z => al c hc (by rw [z]; exact hb)
  have ea : A :: addrs (gs ++ [(g, rs ++ [(b, [], [])])]) = (A :: addrs (gs ++ [(g, rs)])) ++ [b] := by
    rw [addrs_app, addrs_app, addrs_one, addrs_one, List.map_append]
    simp
  have nd := S.nd
  rw [addrs_app, addrs_one] at nd
  rw [List.nodup_cons, List.nodup_append, List.nodup_cons] at nd
  obtain ⟨n1, n2, ⟨n3, n4⟩, n7⟩ := nd
  have gm : g ∈ addrs (gs ++ [(g, rs)]) := mem_addrs_g (x := (g, rs)) (List.mem_append_right _ List.mem_cons_self)
  have hAg : A ≠ g := fun z => n1 (List.mem_append_right _ (by rw [z]; exact List.mem_cons_self))
  have hin : ∀ c ∈ addrs gs, c ≠ g := fun c hc => n7 c hc g List.mem_cons_self
  have hrs : ∀ q ∈ rs, q.1 ≠ g := fun q hq z => n3 (by rw [← z]; exact List.mem_map.mpr ⟨q, hq, rfl⟩)
  have hGg : G g = none := S.fr g (List.mem_cons_of_mem _ gm)
  have hGb : G b = none := by
    cases e : G b with
    | none => rfl
    | some o => rw [S.sG _ _ e] at hb; exact nomatch hb
  have old : ∀ c ∈ A :: addrs (gs ++ [(g, rs)]), c ≠ g → upd (upd H b (.lst [])) g (.lst ((rs.map fun r => V.ref r.1) ++ [.ref b])) c = H c := fun c hc hg => by
    rw [upd_ne hg, upd_ne (nb c hc)]
  refine ⟨fun c u h => ?_, ?_, fun x hx => ?_, ?_, ?_⟩
  · rw [upd_ne (fun z => by rw [z, hGg] at h; exact nomatch h), upd_ne (fun z => by rw [z, hGb] at h; exact nomatch h)]
    exact S.sG _ _ h
  · rw [old A List.mem_cons_self hAg, S.top, List.map_append, List.map_append]
    rfl
  · rcases List.mem_append.mp hx with h | h
    · have hx' := S.grp x (List.mem_append_left _ h)
      have m1 := mem_addrs_g (x := x) (List.mem_append_left [(g, rs)] h)
      refine ⟨by rw [old _ (List.mem_cons_of_mem _ m1) (hin _ (mem_addrs_g h))]; exact hx'.1, fun q hq => ⟨?_, (hx'.2 q hq).2⟩⟩
      rw [old _ (List.mem_cons_of_mem _ (mem_addrs_r (List.mem_append_left [(g, rs)] h) hq)) (hin _ (mem_addrs_r h hq))]
      exact (hx'.2 q hq).1
    · obtain rfl : x = (g, rs ++ [(b, [], [])]) := by simpa using h
      have hx' := S.grp (g, rs) (List.mem_append_right _ List.mem_cons_self)
      refine ⟨?_, fun q hq => ?_⟩
      · rw [upd_same, List.map_append]
        rfl
      · rcases List.mem_append.mp hq with h | h
        · have := hx'.2 q h
          refine ⟨?_, this.2⟩
          rw [old _ (List.mem_cons_of_mem _ (mem_addrs_r (x := (g, rs)) (List.mem_append_right _ List.mem_cons_self) h)) (hrs q h)]
          exact this.1
        · obtain rfl : q = (b, [], []) := by simpa using h
          have hbg : b ≠ g := fun z => nb g (List.mem_cons_of_mem _ gm) z.symm
          exact ⟨by rw [upd_ne hbg]; exact upd_same, .nil⟩
  · rw [ea, List.nodup_append]
    refine ⟨S.nd, by simp, fun c hc d hd => ?_⟩
    have : d = b := by simpa using hd
    rw [this]
    exact nb c hc
  · intro c hc
    rw [ea] at hc
    rcases List.mem_append.mp hc with h | h
    · exact S.fr c h
    · have : c = b := by simpa using h
      rw [this]
      exact hGb
/-- a new group -/
theorem StAt.open {a b : Addr} (S : StAt G H A gs) (ha : H a = none) (hb : upd H a (.lst []) b = none) : StAt G (upd (upd (upd H a (.lst [])) b (.lst [.ref a])) A (.lst ((gs.map fun x => V.ref x.1) ++ [.ref b]))) A (gs ++ [(b, [(a, [], [])])]) := by
  have al := S.alive
  have nba : b ≠ a := fun z => by rw [z, upd_same] at hb; exact nomatch hb
  have hb0 : H b = none := by rw [upd_ne nba] at hb; exact hb
  have na : ∀ c ∈ A :: addrs gs, c ≠ a := fun c hc z => al c hc (by rw [z]; exact ha)
  have nb : ∀ c ∈ A :: addrs gs, c ≠ b := fun c hc z => al c hc (by rw [z]; exact hb0)
  have ea : A :: addrs (gs ++ [(b, [(a, [], [])])]) = (A :: addrs gs) ++ [b, a] := by
    rw [addrs_app, addrs_one]
    rfl
  have hA := S.fr A List.mem_cons_self
  have nd := S.nd
  rw [List.nodup_cons] at nd
  have hG : ∀ {c}, H c = none → G c = none := fun {c} h => by
    cases e : G c with
    | none => rfl
    | some o => rw [S.sG _ _ e] at h; exact nomatch h
  have hGa := hG ha
  have hGb := hG hb0
  have old : ∀ c ∈ addrs gs, upd (upd (upd H a (.lst [])) b (.lst [.ref a])) A (.lst ((gs.map fun x => V.ref x.1) ++ [.ref b])) c = H c := fun c hc => by
    rw [upd_ne (fun z => nd.1 (by rw [← z]; exact hc)), upd_ne (nb c (List.mem_cons_of_mem _ hc)), upd_ne (na c (List.mem_cons_of_mem _ hc))]
  refine ⟨fun c u h => ?_, ?_, fun x hx => ?_, ?_, ?_⟩
  · rw [upd_ne (fun z => by rw [z, hA] at h; exact nomatch h), upd_ne (fun z => by rw [z, hGb] at h; exact nomatch h), upd_ne (fun z => by rw [z, hGa] at h; exact nomatch h)]
    exact S.sG _ _ h
  · rw [upd_same, List.map_append]
    rfl
  · rcases List.mem_append.mp hx with h | h
    · have hx' := S.grp x h
      exact ⟨by rw [old _ (mem_addrs_g h)]; exact hx'.1, fun q hq => ⟨by rw [old _ (mem_addrs_r h hq)]; exact (hx'.2 q hq).1, (hx'.2 q hq).2⟩⟩
    · obtain rfl : x = (b, [(a, [], [])]) := by simpa using h
      refine ⟨?_, fun q hq => ?_⟩
      · rw [upd_ne (fun z => nb A List.mem_cons_self z.symm)]
        exact upd_same
      · obtain rfl : q = (a, [], []) := by simpa using hq
        exact ⟨by rw [upd_ne (fun z => na A List.mem_cons_self z.symm), upd_ne nba.symm]; exact upd_same, .nil⟩
  · rw [ea, List.nodup_append]
    refine ⟨S.nd, by simp [nba], fun c hc d hd => ?_⟩
    simp only [List.mem_cons, List.not_mem_nil, or_false] at hd
    rcases hd with rfl | rfl
    · exact nb c hc
    · exact na c hc
  · intro c hc
    rw [ea] at hc
    rcases List.mem_append.mp hc with h | h
    · exact S.fr c h
    · simp only [List.mem_cons, List.not_mem_nil, or_false] at h
      rcases h with rfl | rfl
      · exact hGb
      · exact hGa
/-- the last group is taken off -/
theorem StAt.pop {x : Grp} (S : StAt G H A (gs ++ [x])) : StAt G (upd H A (.lst (gs.map fun x => V.ref x.1))) A gs ∧ (upd H A (.lst (gs.map fun x => V.ref x.1))) x.1 = some (.lst (x.2.map fun r => V.ref r.1)) ∧ RowsAt G (upd H A (.lst (gs.map fun x => V.ref x.1))) x.2 ∧ (x.2.map (·.1)).Nodup ∧ ∀ c ∈ A :: addrs gs, c ∉ x.2.map (·.1) := by
  have nd := S.nd
  obtain ⟨g, rs⟩ := x
  rw [addrs_app, addrs_one] at nd
  rw [List.nodup_cons, List.nodup_append, List.nodup_cons] at nd
  obtain ⟨n1, n2, ⟨n3, n4⟩, n7⟩ := nd
  have hA := S.fr A List.mem_cons_self
  have neA : ∀ c ∈ addrs (gs ++ [(g, rs)]), c ≠ A := fun c hc z => by
    rw [addrs_app, addrs_one] at hc
    exact n1 (by rw [← z]; exact hc)
  have hx' := S.grp (g, rs) (List.mem_append_right _ List.mem_cons_self)
  have gm : (g, rs) ∈ gs ++ [(g, rs)] := List.mem_append_right _ List.mem_cons_self
  refine ⟨⟨fun c u h => ?_, upd_same, fun x hx => ?_, ?_, fun c hc => ?_⟩, ?_, fun r hr => ⟨?_, ?_, (hx'.2 r hr).2⟩, n4, fun c hc hm => ?_⟩
  · rw [upd_ne (fun z => by rw [z, hA] at h; exact nomatch h)]
    exact S.sG _ _ h
  · have h1 := S.grp x (List.mem_append_left _ hx)
    have hx2 : x ∈ gs ++ [(g, rs)] := List.mem_append_left _ hx
    exact ⟨by rw [upd_ne (neA _ (mem_addrs_g hx2))]; exact h1.1, fun q hq => ⟨by rw [upd_ne (neA _ (mem_addrs_r hx2 hq))]; exact (h1.2 q hq).1, (h1.2 q hq).2⟩⟩
  · rw [List.nodup_cons]
    exact ⟨fun h => n1 (List.mem_append_left _ h), n2⟩
  · refine S.fr c ?_
    rw [addrs_app]
    rcases List.mem_cons.mp hc with rfl | h
    · exact List.mem_cons_self
    · exact List.mem_cons_of_mem _ (List.mem_append_left _ h)
  · rw [upd_ne (neA _ (mem_addrs_g gm))]
    exact hx'.1
  · exact S.fr r.1 (List.mem_cons_of_mem _ (mem_addrs_r gm hr))
  · rw [upd_ne (neA _ (mem_addrs_r gm hr))]
    exact (hx'.2 r hr).1
  · rcases List.mem_cons.mp hc with rfl | h
    · exact n1 (List.mem_append_right _ (List.mem_cons_of_mem _ hm))
    · exact n7 c h c (List.mem_cons_of_mem _ hm) rfl
end
end KT

namespace KT
open PySem L2 Gd
abbrev PG := List (List (List Tr))
def gv (gs : List Grp) : PG := gs.map fun x => x.2.map fun r => r.2.2
inductive Tk where
  | ch (c : Nat) | nm (x : Str)
def sgc (k : _root_.Fin 3) : Nat := if k = 0 then 42 else if k = 1 then 43 else 63
def NmOk (x : Str) : Prop := Tx 8 x ∧ 1 ≤ x.length ∧ x.cps.toList.all low = true
/-- a sign or a name moves the open groups on -/
inductive Stp : Nat → PG → Tk → Nat → PG → Prop
  | sgn {b : Nat} {P : PG} {D : List (List Tr)} {R : List Tr} {u : Tr} {k : _root_.Fin 3} : isSig b = false → b ≠ 124 → b ≠ 40 → Stp b (P ++ [D ++ [R ++ [u]]]) (.ch (sgc k)) (sgc k) (P ++ [D ++ [R ++ [.sgn k u]]])
  | opn {b : Nat} {P : PG} {D : List (List Tr)} {R : List Tr} : P.length < 20 → Stp b (P ++ [D ++ [R]]) (.ch 40) 40 (P ++ [D ++ [R]] ++ [[[]]])
  | cls {b : Nat} {P : PG} {D D2 : List (List Tr)} {R R2 : List Tr} : Stp b (P ++ [D ++ [R]] ++ [D2 ++ [R2]]) (.ch 41) 41 (P ++ [D ++ [R ++ [groupT (D2 ++ [R2])]]])
  | bar {b : Nat} {P : PG} {D : List (List Tr)} {R : List Tr} : Stp b (P ++ [D ++ [R]]) (.ch 124) 124 (P ++ [D ++ [R] ++ [[]]])
  | zero {b : Nat} {P : PG} {D : List (List Tr)} {R : List Tr} : Stp b (P ++ [D ++ [R]]) (.ch 48) 48 (P ++ [D ++ [R ++ [.none]]])
  | letter {b : Nat} {P : PG} {D : List (List Tr)} {R : List Tr} {c : Nat} : low c = true → Stp b (P ++ [D ++ [R]]) (.ch c) c (P ++ [D ++ [R ++ [.letter c]]])
  | name {b : Nat} {P : PG} {D : List (List Tr)} {R : List Tr} {x : Str} : NmOk x → Stp b (P ++ [D ++ [R]]) (.nm x) 60 (P ++ [D ++ [R ++ [.name x]]])
/-- sizes that no list passes -/
def Sz (P : PG) : Prop := P.length ≤ 1000 ∧ ∀ rows ∈ P, rows.length ≤ 1000 ∧ ∀ R ∈ rows, R.length ≤ 1000
def spRead : Sp := fun vs H Q _ => ∃ (G : Hp) (A : Addr) (gs : List Grp) (c b b' : Nat) (P' : PG), vs = [.ref A, .str ⟨#[c]⟩] ∧ StAt G H A gs ∧ Stp b (gv gs) (.ch c) b' P' ∧ Sz (gv gs) ∧ ∀ H' G' gs', Same G G' → StAt G' H' A gs' → gv gs' = P' → Q .non H'
theorem map_snoc {α β : Type} {f : α → β} {l : List α} {P : List β} {y : β} (h : l.map f = P ++ [y]) : ∃ l0 x, l = l0 ++ [x] ∧ l0.map f = P ∧ f x = y := by
  obtain ⟨l0, l1, rfl, h1, h2⟩ := List.map_eq_append_iff.mp h
  obtain ⟨x, rfl, h3⟩ := List.map_eq_singleton_iff.mp h2
  exact ⟨l0, x, rfl, h1, h3⟩
theorem atI_last {α : Type} {l : List α} {x : α} : atI (l ++ [x]) (-1) = some x := by
  unfold atI
  have e : ixN (l ++ [x]).length (-1) = some l.length := by
    rw [List.length_append]
    show ixN (l.length + 1) (-1) = some l.length
    unfold ixN
    simp
    constructor <;> omega
  rw [e]
  show (l ++ [x])[l.length]? = some x
  simp
/-- the open groups by their last row -/
theorem gv_last {gs : List Grp} {P : PG} {D : List (List Tr)} {R : List Tr} (h : gv gs = P ++ [D ++ [R]]) : ∃ gs0 g rs r vs, gs = gs0 ++ [(g, rs ++ [(r, vs, R)])] ∧ gv gs0 = P ∧ (rs.map fun r => r.2.2) = D := by
  obtain ⟨gs0, ⟨g, rs1⟩, rfl, h1, h2⟩ := map_snoc h
  obtain ⟨rs, ⟨r, vs, ts⟩, rfl, h3, h4⟩ := map_snoc (show (rs1.map fun r => r.2.2) = D ++ [R] from h2)
  have h5 : ts = R := h4
  subst h5
  exact ⟨gs0, g, rs, r, vs, rfl, h1, h3⟩
theorem gv_app (a b : List Grp) : gv (a ++ b) = gv a ++ gv b := List.map_append
theorem gv_row {gs : List Grp} {g r : Addr} {rs : Rows} {vs : List V} {R : List Tr} : gv (gs ++ [(g, rs ++ [(r, vs, R)])]) = gv gs ++ [(rs.map fun r => r.2.2) ++ [R]] := by
  show (gs ++ [(g, rs ++ [(r, vs, R)])]).map (fun x => x.2.map fun r => r.2.2) = _
  rw [List.map_append, List.map_cons, List.map_nil, List.map_append]
  rfl
theorem last_facts {G H : Hp} {A g r : Addr} {gs : List Grp} {rs : Rows} {vs : List V} {R : List Tr} {X : PG} (S : StAt G H A (gs ++ [(g, rs ++ [(r, vs, R)])])) (sz : Sz X) (hX : gv (gs ++ [(g, rs ++ [(r, vs, R)])]) = X) :
    H A = some (.lst (gs.map (fun x => V.ref x.1) ++ [V.ref g])) ∧ H g = some (.lst (rs.map (fun r => V.ref r.1) ++ [V.ref r])) ∧ H r = some (.lst vs) ∧ TrsAt G vs R ∧ vs.length ≤ 1000 := by
  have h1 := S.top
  rw [List.map_append] at h1
  have h2 := S.grp (g, rs ++ [(r, vs, R)]) (List.mem_append_right _ List.mem_cons_self)
  have h3 : H g = some (.lst ((rs ++ [(r, vs, R)]).map fun r => V.ref r.1)) := h2.1
  rw [List.map_append] at h3
  have h4 := h2.2 (r, vs, R) (List.mem_append_right _ List.mem_cons_self)
  refine ⟨h1, h3, h4.1, h4.2, ?_⟩
  have : vs.length = R.length := h4.2.length
  rw [this]
  rw [gv_row] at hX
  subst hX
  exact (sz.2 _ (List.mem_append_right _ List.mem_cons_self)).2 R (List.mem_append_right _ List.mem_cons_self)
theorem trs_snoc {H : Hp} : ∀ {vs : List V} {ts : List Tr} {u : Tr}, TrsAt H vs (ts ++ [u]) → ∃ vs0 v0, vs = vs0 ++ [v0] ∧ TrsAt H vs0 ts ∧ TrAt H v0 u
  | _, [], _, .cons h .nil => ⟨[], _, rfl, .nil, h⟩
  | _, _ :: ts, _, .cons h r => by
    obtain ⟨vs0, v0, e, a, b⟩ := trs_snoc (ts := ts) r
    exact ⟨_ :: vs0, v0, by rw [e]; rfl, .cons h a, b⟩
theorem ixN_last {α : Type} {l : List α} {x : α} : ixN (l ++ [x]).length (-1) = some l.length := by
  rw [List.length_append]
  show ixN (l.length + 1) (-1) = some l.length
  unfold ixN
  simp
  constructor <;> omega
theorem put_leaf {G H : Hp} {A g r e : Addr} {gs : List Grp} {rs : Rows} {vs vs' : List V} {R ts' : List Tr} {o : HO} (S : StAt G H A (gs ++ [(g, rs ++ [(r, vs, R)])])) (he : H e = none) (ht : TrsAt (upd G e o) vs' ts') :
    Same G (upd G e o) ∧ StAt (upd G e o) (upd (upd H e o) r (.lst vs')) A (gs ++ [(g, rs ++ [(r, vs', ts')])]) := by
  have hGe : G e = none := by
    cases e1 : G e with
    | none => rfl
    | some u => rw [S.sG _ _ e1] at he; exact nomatch he
  have sg : Same G (upd G e o) := fun c u h => by rw [upd_ne (ne_of_none h hGe)]; exact h
  have sh : Same H (upd H e o) := fun c u h => by rw [upd_ne (ne_of_none h he)]; exact h
  have al := S.alive
  have S1 : StAt (upd G e o) (upd H e o) A (gs ++ [(g, rs ++ [(r, vs, R)])]) := S.go sh sg (fun c u h => by
    by_cases z : c = e
    · rw [z, upd_same] at h ⊢
      exact h
    · rw [upd_ne z] at h ⊢
      exact S.sG _ _ h) (fun c hc => by
    rw [upd_ne (fun z => al c hc (by rw [z]; exact he))]
    exact S.fr c hc)
  exact ⟨sg, S1.row ht⟩
theorem add_leaf {G H : Hp} {A g r e : Addr} {gs : List Grp} {rs : Rows} {vs : List V} {R : List Tr} {o : HO} {t : Tr} (S : StAt G H A (gs ++ [(g, rs ++ [(r, vs, R)])])) (he : H e = none) (ht : TrAt (upd G e o) (.ref e) t) :
    Same G (upd G e o) ∧ StAt (upd G e o) (upd (upd H e o) r (.lst (vs ++ [.ref e]))) A (gs ++ [(g, rs ++ [(r, vs ++ [.ref e], R ++ [t])])]) := by
  have hGe : G e = none := by
    cases e1 : G e with
    | none => rfl
    | some u => rw [S.sG _ _ e1] at he; exact nomatch he
  have sg : Same G (upd G e o) := fun c u h => by rw [upd_ne (ne_of_none h hGe)]; exact h
  have sh : Same H (upd H e o) := fun c u h => by rw [upd_ne (ne_of_none h he)]; exact h
  have al := S.alive
  have S1 : StAt (upd G e o) (upd H e o) A (gs ++ [(g, rs ++ [(r, vs, R)])]) := S.go sh sg (fun c u h => by
    by_cases z : c = e
    · rw [z, upd_same] at h ⊢
      exact h
    · rw [upd_ne z] at h ⊢
      exact S.sG _ _ h) (fun c hc => by
    rw [upd_ne (fun z => al c hc (by rw [z]; exact he))]
    exact S.fr c hc)
  have h4 := (S.grp (g, rs ++ [(r, vs, R)]) (List.mem_append_right _ List.mem_cons_self)).2 (r, vs, R) (List.mem_append_right _ List.mem_cons_self)
  exact ⟨sg, S1.row (trs_append (h4.2.same sg) (.cons ht .nil))⟩
section
variable {P : Program} {w : World} {K : PySem.W.Frag} {mg : Str → Option Value} {base : Heap} {aS aL aK : Addr} {es eK : Array DictEntry} {n nK : Nat}
abbrev sread_mark : Stmt := top 25
theorem scread_mark : FnScope ["groups", "mark", "items", "tree"] ["groups", "mark"] (defScope sread_mark) := ⟨rfl, rfl, rfl, by decide +kernel, rfl, by decide +kernel, by decide +kernel⟩
theorem ok_read {f f1 : Addr} {fd fd1 : FuncData} (F : Fun K "read_mark" "read_mark" sread_mark f fd) (TP : TxP w K mg aK eK nK)
    (D_group_tree : Df P w K mg base CX0 2 "group_tree" f1 fd1 ["rows"] spGroup) : FnG P w K mg base CX0 3 f fd ["groups", "mark"] spRead := by
  refine okG F scread_mark (fun vs H Q E h => ?_) (fun cdv A outer s H vs Q E hc hr h => ?_)
  · obtain ⟨G, A, gs, c, b, b', P', rfl, _⟩ := h
    rfl
  obtain ⟨G, Ag, gs, c, b, b', P', rfl, S, st, sz, q⟩ := h
  refine ⟨_, (pss_cons (ps_set (i := 2) scread_mark.nd rfl (Or.inl rfl) (pe_ix ix_list (pe_ix ix_list (pv 0) (pe_un un_neg pe_int) (fun _ _ => rfl)) (pe_un un_neg pe_int) (fun _ _ => rfl)))
 (pss_one (ps_if (pt_cmpR (op_in_kd TP.d_KINDS_BY_SIGN) (pv 1) (pe_k (by rfl) TP.g_KINDS_BY_SIGN) (by rfl))
  (pss_one (ps_asg (pe_tup (pa_cons (pe_ix (ix_kd TP.d_KINDS_BY_SIGN) (pe_k (by rfl) TP.g_KINDS_BY_SIGN) (pv 1) (fun _ _ => rfl)) (pa_cons (pe_ix ix_list (pv 2) (pe_un un_neg pe_int) (fun _ _ => rfl)) pa_nil))) (pg_sub (pv 2) (pe_un un_neg pe_int) set_list))) (pss_one (ps_if (pt_cmpR op_eq (pv 1) pe_str (nomark _))
  (pss_one (ps_expr (pe_bm PySem.F.plainAttrs_list PySem.F.slot_list_append PySem.F.type_list_append mt_append (pv 0) (pa_cons (pe_lst (pa_cons (pe_lst pa_nil) pa_nil)) pa_nil)))) (pss_one (ps_if (pt_cmpR op_eq (pv 1) pe_str (nomark _))
  (pss_cons (ps_set (i := 3) scread_mark.nd rfl (Or.inl rfl) (pe_d D_group_tree hc (hr.mono (by omega)) (by rfl) (fun _ => passN) (pa_cons (pe_bm0 PySem.F.plainAttrs_list PySem.F.slot_list_pop PySem.F.type_list_pop mt_pop (pv 0)) pa_nil)))
 (pss_one (ps_expr (pe_bm PySem.F.plainAttrs_list PySem.F.slot_list_append PySem.F.type_list_append mt_append (pe_ix ix_list (pe_ix ix_list (pv 0) (pe_un un_neg pe_int) (fun _ _ => rfl)) (pe_un un_neg pe_int) (fun _ _ => rfl)) (pa_cons (pv 3) pa_nil))))) (pss_one (ps_if (pt_cmpR op_eq (pv 1) pe_str (nomark _))
  (pss_one (ps_expr (pe_bm PySem.F.plainAttrs_list PySem.F.slot_list_append PySem.F.type_list_append mt_append (pe_ix ix_list (pv 0) (pe_un un_neg pe_int) (fun _ _ => rfl)) (pa_cons (pe_lst pa_nil) pa_nil)))) (pss_one (ps_if (pt_cmpR op_eq (pv 1) pe_str (nomark _))
  (pss_one (ps_expr (pe_bm PySem.F.plainAttrs_list PySem.F.slot_list_append PySem.F.type_list_append mt_append (pv 2) (pa_cons (pe_tup (pa_cons pe_str pa_nil)) pa_nil)))) (pss_one (ps_expr (pe_bm PySem.F.plainAttrs_list PySem.F.slot_list_append PySem.F.type_list_append mt_append (pv 2) (pa_cons (pe_tup (pa_cons pe_str (pa_cons (pv 1) pa_nil))) pa_nil))))))))))))))), ?_⟩
  have z16 := sizeLine_eq
  have e40 := fun x => sgEq x (Str.ofString "(") 40 (by decide +kernel)
  have e41 := fun x => sgEq x (Str.ofString ")") 41 (by decide +kernel)
  have e124 := fun x => sgEq x (Str.ofString "|") 124 (by decide +kernel)
  have e48 := fun x => sgEq x (Str.ofString "0") 48 (by decide +kernel)
  obtain ⟨rr, hr1, hr2⟩ := TP.i_KINDS_BY_SIGN c
  generalize hX : gv gs = X at st sz
  cases st with
  | @letter P0 D R _ lc =>
    obtain ⟨gs0, g, rs, r, vs, rfl, hP, hD⟩ := gv_last hX
    obtain ⟨hT, hg, hr', hts, szr⟩ := last_facts S sz hX
    have lc' := lc
    unfold low at lc'
    rw [Bool.and_eq_true, decide_eq_true_eq, decide_eq_true_eq] at lc'
    refine ⟨_, rfl, 1, rfl, Ag, _, _, _, rfl, rfl, SqL.of hT, atI_last, 1, rfl, g, _, _, _, rfl, rfl, SqL.of hg, atI_last, ?_⟩
    refine ⟨_, rfl, _, rr, rfl, rfl, hr1, _, rfl, ?_⟩
    rw [hr2]
    refine iteB (fun c1 => absurd c1 (by unfold isSig; simp; omega)) (fun _ => ?_)
    refine ⟨_, rfl, rfl, _, rfl, ?_⟩
    rw [e40]
    refine iteB (fun c1 => absurd (of_decide_eq_true c1) (by omega)) (fun _ => ?_)
    refine ⟨_, rfl, rfl, _, rfl, ?_⟩
    rw [e41]
    refine iteB (fun c1 => absurd (of_decide_eq_true c1) (by omega)) (fun _ => ?_)
    refine ⟨_, rfl, rfl, _, rfl, ?_⟩
    rw [e124]
    refine iteB (fun c1 => absurd (of_decide_eq_true c1) (by omega)) (fun _ => ?_)
    refine ⟨_, rfl, rfl, _, rfl, ?_⟩
    rw [e48]
    refine iteB (fun c1 => absurd (of_decide_eq_true c1) (by omega)) (fun _ => ?_)
    refine ⟨_, rfl, .inl ⟨rfl, _, SqL.of hr'⟩, _, rfl, by show 2 ≤ sizeLine; omega, fun e he => ⟨r, vs, _, rfl, rfl, by rw [upd_ne (ne_of_none hr' he)]; exact hr', by omega, ?_⟩⟩
    obtain ⟨a1, a2⟩ := add_leaf (t := .letter c) S he (.letter upd_same)
    exact q _ _ _ a1 a2 (by rw [gv_row, hP, hD])
  | @zero P0 D R =>
    obtain ⟨gs0, g, rs, r, vs, rfl, hP, hD⟩ := gv_last hX
    obtain ⟨hT, hg, hr', hts, szr⟩ := last_facts S sz hX
    refine ⟨_, rfl, 1, rfl, Ag, _, _, _, rfl, rfl, SqL.of hT, atI_last, 1, rfl, g, _, _, _, rfl, rfl, SqL.of hg, atI_last, ?_⟩
    refine ⟨_, rfl, _, rr, rfl, rfl, hr1, _, rfl, ?_⟩
    rw [hr2]
    refine iteB (fun c1 => absurd c1 (by decide)) (fun _ => ?_)
    refine ⟨_, rfl, rfl, _, rfl, ?_⟩
    rw [e40]
    refine iteB (fun c1 => absurd c1 (by decide)) (fun _ => ?_)
    refine ⟨_, rfl, rfl, _, rfl, ?_⟩
    rw [e41]
    refine iteB (fun c1 => absurd c1 (by decide)) (fun _ => ?_)
    refine ⟨_, rfl, rfl, _, rfl, ?_⟩
    rw [e124]
    refine iteB (fun c1 => absurd c1 (by decide)) (fun _ => ?_)
    refine ⟨_, rfl, rfl, _, rfl, ?_⟩
    rw [e48]
    refine iteB (fun _ => ?_) (fun c1 => absurd c1 (by decide))
    refine ⟨_, rfl, .inl ⟨rfl, _, SqL.of hr'⟩, by show 1 ≤ sizeLine; omega, fun e he => ⟨r, vs, _, rfl, rfl, by rw [upd_ne (ne_of_none hr' he)]; exact hr', by omega, ?_⟩⟩
    obtain ⟨a1, a2⟩ := add_leaf (t := .none) S he (.none upd_same)
    exact q _ _ _ a1 a2 (by rw [gv_row, hP, hD])
  | @bar P0 D R =>
    obtain ⟨gs0, g, rs, r, vs, rfl, hP, hD⟩ := gv_last hX
    obtain ⟨hT, hg, hr', hts, szr⟩ := last_facts S sz hX
    refine ⟨_, rfl, 1, rfl, Ag, _, _, _, rfl, rfl, SqL.of hT, atI_last, 1, rfl, g, _, _, _, rfl, rfl, SqL.of hg, atI_last, ?_⟩
    refine ⟨_, rfl, _, rr, rfl, rfl, hr1, _, rfl, ?_⟩
    rw [hr2]
    refine iteB (fun c1 => absurd c1 (by decide)) (fun _ => ?_)
    refine ⟨_, rfl, rfl, _, rfl, ?_⟩
    rw [e40]
    refine iteB (fun c1 => absurd c1 (by decide)) (fun _ => ?_)
    refine ⟨_, rfl, rfl, _, rfl, ?_⟩
    rw [e41]
    refine iteB (fun c1 => absurd c1 (by decide)) (fun _ => ?_)
    refine ⟨_, rfl, rfl, _, rfl, ?_⟩
    rw [e124]
    refine iteB (fun _ => ?_) (fun c1 => absurd c1 (by decide))
    have lrs : rs.length + 1 ≤ 1000 := by
      have := (sz.2 (D ++ [R]) (List.mem_append_right _ List.mem_cons_self)).1
      rw [List.length_append, ← hD, List.length_map] at this
      exact this
    refine ⟨_, rfl, 1, rfl, Ag, _, _, _, rfl, rfl, SqL.of hT, atI_last, .inl ⟨rfl, _, SqL.of hg⟩, by show 0 ≤ sizeLine; omega, fun e he => ⟨g, _, _, rfl, rfl, by rw [upd_ne (ne_of_none hg he)]; exact hg, by rw [List.length_append, List.length_map]; show rs.length + 1 < sizeLine; omega, ?_⟩⟩
    have b1 := S.bar he
    rw [List.map_append] at b1
    exact q _ _ _ (Same.refl G) b1 (by
      rw [gv_app, hP]
      show P0 ++ [((rs ++ [(r, vs, R)]) ++ [(e, [], [])]).map (fun r : Addr × List V × List Tr => r.2.2)] = _
      rw [List.map_append, List.map_append, hD]
      rfl)
  | @opn P0 D R l20 =>
    obtain ⟨gs0, g, rs, r, vs, rfl, hP, hD⟩ := gv_last hX
    obtain ⟨hT, hg, hr', hts, szr⟩ := last_facts S sz hX
    refine ⟨_, rfl, 1, rfl, Ag, _, _, _, rfl, rfl, SqL.of hT, atI_last, 1, rfl, g, _, _, _, rfl, rfl, SqL.of hg, atI_last, ?_⟩
    refine ⟨_, rfl, _, rr, rfl, rfl, hr1, _, rfl, ?_⟩
    rw [hr2]
    refine iteB (fun c1 => absurd c1 (by decide)) (fun _ => ?_)
    refine ⟨_, rfl, rfl, _, rfl, ?_⟩
    rw [e40]
    refine iteB (fun _ => ?_) (fun c1 => absurd c1 (by decide))
    have lgs : gs0.length ≤ 20 := by
      have : (gv gs0).length = P0.length := by rw [hP]
      rw [show (gv gs0).length = gs0.length from List.length_map _] at this
      omega
    refine ⟨_, rfl, .inl ⟨rfl, _, SqL.of hT⟩, by show 0 ≤ sizeLine; omega, fun e he => ⟨by show 1 ≤ sizeLine; omega, fun e2 he2 => ⟨Ag, gs0.map (fun x => V.ref x.1) ++ [V.ref g], _, rfl, rfl, ?_, ?_, ?_⟩⟩⟩
    · have h1 : (upd H e (.lst [])) Ag = some (.lst (gs0.map (fun x => V.ref x.1) ++ [V.ref g])) := by rw [upd_ne (ne_of_none hT he)]; exact hT
      rw [upd_ne (ne_of_none h1 he2)]
      exact h1
    · rw [List.length_append, List.length_map]
      show gs0.length + 1 < sizeLine
      omega
    · have b1 := S.open he he2
      rw [List.map_append] at b1
      exact q _ _ _ (Same.refl G) b1 (by
        rw [gv_app, hX]
        rfl)
  | @sgn P0 D R u k nb1 nb2 nb3 =>
    obtain ⟨gs0, g, rs, r, vs, rfl, hP, hD⟩ := gv_last hX
    obtain ⟨hT, hg, hr', hts, szr⟩ := last_facts S sz hX
    have al : ∀ k : _root_.Fin 3, isSig (sgc k) = true := by decide
    have ek : ∀ k : _root_.Fin 3, sgTx k = ⟨#[sgc k]⟩ := by decide +kernel
    obtain ⟨vs0, v0, rfl, t1, t2⟩ := trs_snoc hts
    obtain ⟨u0, hu0, ru0⟩ := TP.v_KINDS_BY_SIGN k
    rw [ek] at hu0
    refine ⟨_, rfl, 1, rfl, Ag, _, _, _, rfl, rfl, SqL.of hT, atI_last, 1, rfl, g, _, _, _, rfl, rfl, SqL.of hg, atI_last, ?_⟩
    refine ⟨_, rfl, _, rr, rfl, rfl, hr1, _, rfl, ?_⟩
    rw [hr2]
    refine iteB (fun _ => ?_) (fun c1 => absurd c1 (by rw [al]; exact Bool.noConfusion))
    refine ⟨_, rfl, _, u0, _, rfl, rfl, hu0, ru0, _, rfl, 1, rfl, r, _, _, _, rfl, rfl, SqL.of hr', atI_last, by show 2 ≤ sizeLine; omega, fun e he => ?_⟩
    refine ⟨_, rfl, 1, rfl, r, vs0 ++ [v0], -1, vs0.length, rfl, rfl, by rw [upd_ne (ne_of_none hr' he)]; exact hr', ixN_last, ?_⟩
    have es : (vs0 ++ [v0]).set vs0.length (.ref e) = vs0 ++ [.ref e] := by simp
    rw [es]
    have hGe : G e = none := by
      cases e1 : G e with
      | none => rfl
      | some u => rw [S.sG _ _ e1] at he; exact nomatch he
    have sg : Same G (upd G e (.tup [.str (sSgn k), v0])) := fun c u h => by rw [upd_ne (ne_of_none h hGe)]; exact h
    obtain ⟨a1, a2⟩ := put_leaf (o := .tup [.str (sSgn k), v0]) (vs' := vs0 ++ [.ref e]) (ts' := R ++ [.sgn k u]) S he (trs_append (t1.same sg) (.cons (.sgn upd_same (t2.same sg)) .nil))
    exact q _ _ _ a1 a2 (by rw [gv_row, hP, hD])
  | @cls P0 D D2 R R2 =>
    obtain ⟨gs1, g2, rs2, r2, vs2, rfl, hP2, hD2⟩ := gv_last hX
    obtain ⟨hT, hg, hr', hts, szr⟩ := last_facts S sz hX
    refine ⟨_, rfl, 1, rfl, Ag, _, _, _, rfl, rfl, SqL.of hT, atI_last, 1, rfl, g2, _, _, _, rfl, rfl, SqL.of hg, atI_last, ?_⟩
    refine ⟨_, rfl, _, rr, rfl, rfl, hr1, _, rfl, ?_⟩
    rw [hr2]
    refine iteB (fun c1 => absurd c1 (by decide)) (fun _ => ?_)
    refine ⟨_, rfl, rfl, _, rfl, ?_⟩
    rw [e40]
    refine iteB (fun c1 => absurd c1 (by decide)) (fun _ => ?_)
    refine ⟨_, rfl, rfl, _, rfl, ?_⟩
    rw [e41]
    refine iteB (fun _ => ?_) (fun c1 => absurd c1 (by decide))
    obtain ⟨gs0, g, rs, r, vs, rfl, hP, hD⟩ := gv_last hP2
    have lrs : rs2.length + 1 ≤ 1000 := by
      have := (sz.2 (D2 ++ [R2]) (List.mem_append_right _ List.mem_cons_self)).1
      rw [List.length_append, ← hD2, List.length_map] at this
      exact this
    have sR : R.length ≤ 1000 := (sz.2 (D ++ [R]) (List.mem_append_left _ (List.mem_append_right _ List.mem_cons_self))).2 R (List.mem_append_right _ List.mem_cons_self)
    obtain ⟨S1, p1, p2, p3, p4⟩ := S.pop
    have eg : (((gs0 ++ [(g, rs ++ [(r, vs, R)])]).map (fun x => V.ref x.1)) ++ [V.ref g2])[(((gs0 ++ [(g, rs ++ [(r, vs, R)])]).map (fun x => V.ref x.1)) ++ [V.ref g2]).length - 1]? = some (.ref g2) := by simp
    have ed : (((gs0 ++ [(g, rs ++ [(r, vs, R)])]).map (fun x => V.ref x.1)) ++ [V.ref g2]).dropLast = (gs0 ++ [(g, rs ++ [(r, vs, R)])]).map (fun x => V.ref x.1) := by simp
    refine ⟨_, rfl, .inl ⟨rfl, _, SqL.of hT⟩, Ag, _, .ref g2, rfl, rfl, hT, eg, ?_⟩
    rw [ed]
    refine ⟨G, g2, rs2 ++ [(r2, vs2, R2)], rfl, S1.sG, p1, p2, p3, by simp, by rw [List.length_append]; exact lrs, fun v H' sH sl => ?_⟩
    obtain ⟨G', a1, a2, a3, a4⟩ := sl
    have al1 := S1.alive
    have S2 : StAt G' H' Ag (gs0 ++ [(g, rs ++ [(r, vs, R)])]) := S1.go sH a1 a2 (fun c hc => by
      cases e1 : G' c with
      | none => rfl
      | some o =>
        exfalso
        rcases a4 c (S1.fr c hc) (by rw [e1]; exact fun z => nomatch z) with h | h
        · exact p4 c hc h
        · exact al1 c hc h)
    have f1 := S2.top
    rw [List.map_append] at f1
    have f2 := S2.grp (g, rs ++ [(r, vs, R)]) (List.mem_append_right _ List.mem_cons_self)
    have f3 : H' g = some (.lst ((rs ++ [(r, vs, R)]).map fun r => V.ref r.1)) := f2.1
    rw [List.map_append] at f3
    have f4 := f2.2 (r, vs, R) (List.mem_append_right _ List.mem_cons_self)
    have lv : vs.length = R.length := f4.2.length
    refine ⟨_, rfl, 1, rfl, Ag, _, _, _, rfl, rfl, SqL.of f1, atI_last, 1, rfl, g, _, _, _, rfl, rfl, SqL.of f3, atI_last, .inl ⟨rfl, _, SqL.of f4.1⟩, _, rfl, r, vs, _, rfl, rfl, f4.1, by omega, ?_⟩
    have e3 : (rs2 ++ [(r2, vs2, R2)]).map (fun r => r.2.2) = D2 ++ [R2] := by
      rw [List.map_append, hD2]
      rfl
    rw [e3] at a3
    exact q _ _ _ a1 (S2.row (trs_append f4.2 (.cons a3 .nil))) (by rw [gv_row, hP, hD])
end
end KT

namespace KT
open PySem L2 Gd
def tkL : Tk → List Nat
  | .ch c => [c]
  | .nm x => 60 :: (x.cps.toList ++ [62])
inductive Run : Nat → PG → List Tk → Nat → PG → Prop
  | nil {b : Nat} {P : PG} : Run b P [] b P
  | cons {b b1 b2 : Nat} {P P1 P2 : PG} {t : Tk} {ts : List Tk} : Sz P → Stp b P t b1 P1 → Run b1 P1 ts b2 P2 → Run b P (t :: ts) b2 P2
def spParse : Sp := fun vs H Q _ => ∃ (z : Str) (toks : List Tk) (b' : Nat) (D : List (List Tr)) (R : List Tr), vs = [.str z] ∧ z.cps.toList = toks.flatMap tkL ∧ z.length ≤ 100000 ∧ Run 40 [[[]]] toks b' [D ++ [R]] ∧ Sz [D ++ [R]] ∧ ∀ v H', Same H H' → TrAt H' v (groupT (D ++ [R])) → Q v H'
/-- what a sign's step says of the sign -/
theorem may_of {b c b' : Nat} {P P' : PG} (s : Stp b P (.ch c) b' P') : mayF c b ((P.length : Int) - 1) = true ∧ c < 128 ∧ c ≠ 60 ∧ b' = c := by
  have sg : ∀ k : _root_.Fin 3, isSig (sgc k) = true ∧ sgc k < 128 ∧ sgc k ≠ 60 := by decide
  cases s with
  | @sgn P D R u k n1 n2 n3 =>
    refine ⟨?_, (sg k).2.1, (sg k).2.2, rfl⟩
    unfold mayF
    rw [(sg k).1, if_pos rfl, n1, decide_eq_false n2, decide_eq_false n3]
    rfl
  | @opn P D R l =>
    refine ⟨?_, by decide, by decide, rfl⟩
    have h : mayF 40 b (((P ++ [D ++ [R]]).length : Int) - 1) = decide ((((P ++ [D ++ [R]]).length : Int) - 1) < 20) := rfl
    rw [h, List.length_append]
    exact decide_eq_true (by show ((P.length + 1 : Nat) : Int) - 1 < 20; omega)
  | @cls P D D2 R R2 =>
    refine ⟨?_, by decide, by decide, rfl⟩
    have h : mayF 41 b (((P ++ [D ++ [R]] ++ [D2 ++ [R2]]).length : Int) - 1) = decide (0 < (((P ++ [D ++ [R]] ++ [D2 ++ [R2]]).length : Int) - 1)) := rfl
    rw [h, List.length_append, List.length_append]
    exact decide_eq_true (by show 0 < ((P.length + 1 + 1 : Nat) : Int) - 1; omega)
  | @bar P D R => exact ⟨rfl, by decide, by decide, rfl⟩
  | @zero P D R => exact ⟨rfl, by decide, by decide, rfl⟩
  | @letter P D R _ l =>
    have l' := l
    unfold low at l'
    rw [Bool.and_eq_true, decide_eq_true_eq, decide_eq_true_eq] at l'
    refine ⟨?_, by omega, by omega, rfl⟩
    unfold mayF
    have h1 : isSig c = false := by
      unfold isSig
      rw [decide_eq_false (by omega), decide_eq_false (by omega), decide_eq_false (by omega)]
      rfl
    rw [h1, if_neg Bool.false_ne_true, decide_eq_false (by omega), if_neg Bool.false_ne_true, decide_eq_false (by omega), if_neg Bool.false_ne_true, l, Bool.or_true, Bool.or_true]
theorem start_st {H : Hp} {a b A : Addr} (ha : H a = none) (hb : upd H a (HO.lst []) b = none) (hA : upd (upd H a (HO.lst [])) b (HO.lst [V.ref a]) A = none) :
    StAt H (upd (upd (upd H a (HO.lst [])) b (HO.lst [V.ref a])) A (HO.lst [V.ref b])) A [(b, [(a, [], [])])] := by
  have nba : b ≠ a := fun z => by rw [z, upd_same] at hb; exact nomatch hb
  have hb0 : H b = none := by rw [upd_ne nba] at hb; exact hb
  have nAb : A ≠ b := fun z => by rw [z, upd_same] at hA; exact nomatch hA
  rw [upd_ne nAb] at hA
  have nAa : A ≠ a := fun z => by rw [z, upd_same] at hA; exact nomatch hA
  rw [upd_ne nAa] at hA
  refine ⟨fun c u h => ?_, upd_same, fun x hx => ?_, ?_, fun c hc => ?_⟩
  · rw [upd_ne (ne_of_none h hA), upd_ne (ne_of_none h hb0), upd_ne (ne_of_none h ha)]
    exact h
  · obtain rfl : x = (b, [(a, [], [])]) := by simpa using hx
    refine ⟨?_, fun q hq => ?_⟩
    · rw [upd_ne nAb.symm]
      exact upd_same
    · obtain rfl : q = (a, [], []) := by simpa using hq
      exact ⟨by rw [upd_ne nAa.symm, upd_ne nba.symm]; exact upd_same, .nil⟩
  · show [A, b, a].Nodup
    simp [nAb, nAa, nba]
  · have hc' : c ∈ [A, b, a] := hc
    simp only [List.mem_cons, List.not_mem_nil, or_false] at hc'
    rcases hc' with rfl | rfl | rfl
    · exact hA
    · exact hb0
    · exact ha
theorem gv_len (gs : List Grp) : (gv gs).length = gs.length := List.length_map _
theorem tops {G H : Hp} {A : Addr} {gs : List Grp} (S : StAt G H A gs) : ∃ xs, H A = some (.lst xs) ∧ xs.length = gs.length := ⟨_, S.top, List.length_map _⟩
theorem cut_mid {z x : Str} {pre post : List Nat} (h : z.cps.toList = pre ++ 60 :: (x.cps.toList ++ 62 :: post)) : cutS z (some ((pre.length : Nat) + 1 : Int)) (some ((pre.length + 1 + x.length : Nat) : Int)) = x := by
  have lz : z.length = pre.length + 1 + x.length + 1 + post.length := by
    rw [Gd.len_list, h, List.length_append, List.length_cons, List.length_append, List.length_cons, ← Gd.len_list]
    omega
  have e : (cutS z (some ((pre.length : Nat) + 1 : Int)) (some ((pre.length + 1 + x.length : Nat) : Int))).cps.toList = x.cps.toList := by
    show (z.cps.toList.drop (HT.sIx z.length 0 (some (((pre.length + 1 : Nat)) : Int)))).take (HT.sIx z.length z.length (some ((pre.length + 1 + x.length : Nat) : Int)) - HT.sIx z.length 0 (some ((pre.length + 1 : Nat) : Int))) = _
    rw [HT.sIx_nat, HT.sIx_nat, Nat.min_eq_left (by omega), Nat.min_eq_left (by omega), h]
    have d : (pre ++ 60 :: (x.cps.toList ++ 62 :: post)).drop (pre.length + 1) = x.cps.toList ++ 62 :: post := by
      rw [← List.drop_drop, List.drop_left]
      rfl
    rw [d, show pre.length + 1 + x.length - (pre.length + 1) = x.cps.toList.length by rw [← Gd.len_list]; omega, List.take_left]
  have e2 : (cutS z (some ((pre.length : Nat) + 1 : Int)) (some ((pre.length + 1 + x.length : Nat) : Int))).cps = x.cps := Array.ext' e
  cases x
  rw [← Str.mk.injEq] at e2
  exact e2
section
variable {P : Program} {w : World} {K : PySem.W.Frag} {mg : Str → Option Value} {base : Heap} {aS aL aK C_E f_E C_T f_T : Addr} {es eK : Array DictEntry} {n nK : Nat}
abbrev sparse_expression : Stmt := top 23
theorem scparse_expression : FnScope ["text", "groups", "before", "index", "mark", "end"] ["text"] (defScope sparse_expression) := ⟨rfl, rfl, rfl, by decide +kernel, rfl, by decide +kernel, by decide +kernel⟩
theorem ok_parse {f f1 f2 f3 f4 : Addr} {fd fd1 fd2 fd3 fd4 : FuncData} (F : Fun K "parse_expression" "parse_expression" sparse_expression f fd) (T : Txt w K mg base aS aL es n)
    (D_name_end : Df P w K mg base (L2.CX P w) 2 "name_end" f1 fd1 ["text", "start"] spEnd) (D_may_follow : Df P w K mg base CX0 2 "may_follow" f2 fd2 ["mark", "before", "depth"] spMay)
    (D_read_mark : Df P w K mg base CX0 3 "read_mark" f3 fd3 ["groups", "mark"] spRead) (D_group_tree : Df P w K mg base CX0 2 "group_tree" f4 fd4 ["rows"] spGroup) :
    FnG P w K mg base (L2.CX P w) 4 f fd ["text"] spParse := by
  refine okG F scparse_expression (fun vs H Q E h => ?_) (fun cdv A outer s H vs Q E hc hr h => ?_)
  · obtain ⟨z, toks, b', D, R, rfl, _⟩ := h
    rfl
  obtain ⟨z, toks, b', D, R, rfl, hz, hzl, hrun, hsz, q⟩ := h
  refine ⟨_, (pss_cons (ps_if (pt_not (pt_val (pe_callB call_isk (by rfl) T.z_isinstance (by decide +kernel) (pa_cons (pv 0) (pa_cons (pe_bltn (v := .ty "str") (by rfl) T.z_str (by decide +kernel) rfl) pa_nil)))))
  (pss_one ps_never) pss_nil)
 (pss_cons (ps_set (i := 1) scparse_expression.nd rfl (Or.inl rfl) (pe_lst (pa_cons (pe_lst (pa_cons (pe_lst pa_nil) pa_nil)) pa_nil)))
 (pss_cons (ps_set (i := 2) scparse_expression.nd rfl (Or.inl rfl) pe_str)
 (pss_cons (ps_set (i := 3) scparse_expression.nd rfl (Or.inl rfl) pe_int)
 (pss_cons (ps_while (passes_of rfl) (pt_cmpR op_lt (pv 3) (pe_callB call_len_str (by rfl) T.z_len (by decide +kernel) (pa_cons (pv 0) pa_nil)) (nomark _))
  (pss_cons (ps_set (i := 4) scparse_expression.nd rfl (Or.inl rfl) (pe_ix ix_str (pv 0) (pv 3) (fun _ _ => rfl)))
 (pss_cons (ps_if (pt_cmpR op_eq (pv 4) pe_str (nomark _))
  (pss_cons (ps_set (i := 5) scparse_expression.nd rfl (Or.inl rfl) (pe_d D_name_end hc (hr.mono (by omega)) (by rfl) (fun _ => passM) (pa_cons (pv 0) (pa_cons (pv 3) pa_nil))))
 (pss_cons (ps_expr (pe_bm PySem.F.plainAttrs_list PySem.F.slot_list_append PySem.F.type_list_append mt_append (pe_ix ix_list (pe_ix ix_list (pv 1) (pe_un un_neg pe_int) (fun _ _ => rfl)) (pe_un un_neg pe_int) (fun _ _ => rfl)) (pa_cons (pe_tup (pa_cons pe_str (pa_cons (pe_slice sl_str (pv 0) (po_some (pe_op op_add (pv 3) pe_int)) (po_some (pv 5))) pa_nil))) pa_nil)))
 (pss_one (ps_set (i := 3) scparse_expression.nd rfl (Or.inl rfl) (pv 5))))) (pss_one (ps_if (pt_val (pe_d D_may_follow hc (hr.mono (by omega)) (by rfl) (fun _ => passN) (pa_cons (pv 4) (pa_cons (pv 2) (pa_cons (pe_op op_sub (pe_callB call_len_seq (by rfl) T.z_len (by decide +kernel) (pa_cons (pv 1) pa_nil)) pe_int) pa_nil)))))
  (pss_one (ps_expr (pe_d D_read_mark hc (hr.mono (by omega)) (by rfl) (fun _ => passN) (pa_cons (pv 1) (pa_cons (pv 4) pa_nil))))) (pss_one ps_never))))
 (pss_cons (ps_set (i := 2) scparse_expression.nd rfl (Or.inl rfl) (pv 4))
 (pss_one (ps_aug (i := 3) scparse_expression.nd rfl (Or.inl rfl) pe_int ip_add))))))
 (pss_cons (ps_if (pt_cmpR op_gt (pe_callB call_len_seq (by rfl) T.z_len (by decide +kernel) (pa_cons (pv 1) pa_nil)) pe_int (nomark _))
  (pss_one ps_never) pss_nil)
 (pss_one (ps_ret (pe_d D_group_tree hc (hr.mono (by omega)) (by rfl) (fun _ => passN) (pa_cons (pe_ix ix_list (pv 1) pe_int (fun _ _ => rfl)) pa_nil)))))))))), ?_⟩
  have z16 := sizeLine_eq
  refine ⟨_, rfl, .str z, "str", rfl, .inr (.inl rfl), (fun z => nomatch z), _, rfl, ?_⟩
  refine iteB (fun c => absurd (show (!inst "str" Kind.str) = true from c) (by decide +kernel)) (fun _ => ?_)
  refine ⟨by show 0 ≤ sizeLine; omega, fun a ha => ⟨by show 1 ≤ sizeLine; omega, fun b hb => ⟨by show 1 ≤ sizeLine; omega, fun Ag hA => ?_⟩⟩⟩
  refine ⟨fun m σ H' => ∃ (pre : List Nat) (rem : List Tk) (b0 : Nat) (G : Hp) (gs : List Grp) (o4 o5 : Option V), m = rem.length ∧ z.cps.toList = pre ++ rem.flatMap tkL ∧ Run b0 (gv gs) rem b' [D ++ [R]] ∧ StAt G H' Ag gs ∧ Same H G ∧ σ = [some (.str z), some (.ref Ag), some (.str ⟨#[b0]⟩), some (.int (pre.length : Nat)), o4, o5], ⟨toks.length, [], toks, 40, H, [(b, [(a, [], [])])], none, none, rfl, hz, hrun, start_st ha hb hA, Same.refl H, rfl⟩, ?_⟩
  rintro m _ H' ⟨pre, rem, b0, G, gs, o4, o5, rfl, hz', hrun', S, sH, rfl⟩
  have lz : z.length = pre.length + (rem.flatMap tkL).length := by rw [Gd.len_list, hz', List.length_append]
  refine ⟨_, rfl, _, rfl, z, rfl, by omega, _, _, rfl, rfl, _, rfl, ?_⟩
  generalize hX : gv gs = X at hrun'
  cases hrun' with
  | nil =>
    refine iteB (fun c => absurd (of_decide_eq_true c) (by show ¬ ((pre.length : Nat) : Int) < (z.length : Nat); rw [lz]; show ¬ ((pre.length : Nat) : Int) < ((pre.length + 0 : Nat) : Int); omega)) (fun _ => ?_)
    obtain ⟨gs0, g, rs, r, vs, rfl, hP, hD⟩ := gv_last (P := []) hX
    obtain rfl : gs0 = [] := by cases gs0 with
      | nil => rfl
      | cons y ys => exact nomatch hP
    obtain ⟨hT, hg, hr', hts, szr⟩ := last_facts S hsz hX
    refine ⟨_, rfl, Ag, _, rfl, .inl (SqL.of hT), _, _, rfl, rfl, _, rfl, ?_⟩
    refine iteB (fun c => absurd (of_decide_eq_true c) (by show ¬ (1 : Int) < 1; omega)) (fun _ => ?_)
    have lrs : rs.length + 1 ≤ 1000 := by
      have := (hsz.2 (D ++ [R]) List.mem_cons_self).1
      rw [List.length_append, ← hD, List.length_map] at this
      exact this
    have S' := S.grp (g, rs ++ [(r, vs, R)]) List.mem_cons_self
    have nd := S.nd
    have nd2 : (Ag :: g :: ((rs ++ [(r, vs, R)]).map (·.1))).Nodup := by
      have e : addrs ([] ++ [(g, rs ++ [(r, vs, R)])]) = g :: ((rs ++ [(r, vs, R)]).map (·.1)) := addrs_one g _
      rw [e] at nd
      exact nd
    refine ⟨_, rfl, Ag, _, _, _, rfl, rfl, SqL.of hT, atI_nat (j := 0) rfl, G, g, rs ++ [(r, vs, R)], rfl, S.sG, S'.1, fun y hy => ⟨S.fr y.1 (List.mem_cons_of_mem _ (mem_addrs_r (x := (g, rs ++ [(r, vs, R)])) List.mem_cons_self hy)), (S'.2 y hy).1, (S'.2 y hy).2⟩, (List.nodup_cons.mp (List.nodup_cons.mp nd2).2).2, by simp, by rw [List.length_append]; exact lrs, fun v H2 s2 sl => ?_⟩
    obtain ⟨G2, a1, a2, a3, a4⟩ := sl
    have eg : ((rs ++ [(r, vs, R)]).map fun r => r.2.2) = D ++ [R] := by
      rw [List.map_append, hD]
      rfl
    rw [eg] at a3
    exact q _ _ (sH.trans (a1.trans a2)) (a3.same a2)
  | @cons _ b1 _ _ P1 _ t ts sz st hr2 =>
    have el : (t :: ts).flatMap tkL = tkL t ++ ts.flatMap tkL := rfl
    rw [el] at hz' lz
    rw [List.length_append] at lz
    cases t with
    | ch c =>
      have l1 : (tkL (.ch c)).length = 1 := rfl
      rw [l1] at lz
      refine iteB (fun _ => ?_) (fun c1 => absurd (of_decide_eq_false c1) (by omega))
      have ec : atI z.cps.toList ((pre.length : Nat) : Int) = some c := atI_nat (by
        rw [hz', List.getElem?_append_right (Nat.le_refl _), Nat.sub_self]
        rfl)
      obtain ⟨m1, m2, m3, m4⟩ := may_of st
      subst m4
      refine ⟨_, fun _ _ h => h, ?_⟩
      refine ⟨_, rfl, _, rfl, z, _, b1, rfl, rfl, by omega, ec, ?_⟩
      refine ⟨_, rfl, rfl, _, rfl, ?_⟩
      rw [sgEq b1 (Str.ofString "<") 60 (by decide +kernel)]
      refine iteB (fun c1 => absurd (of_decide_eq_true c1) m3) (fun _ => ?_)
      obtain ⟨xs, hT, hxs⟩ := tops S
      have ed : mayF b1 b0 ((xs.length : Nat) - 1) = true := by
        rw [← hX, gv_len, ← hxs] at m1
        exact m1
      refine ⟨_, rfl, _, rfl, _, rfl, Ag, xs, rfl, .inl (SqL.of hT), _, _, rfl, rfl, b1, b0, _, rfl, m2, fun H2 s2 => ⟨_, rfl, ?_⟩⟩
      rw [ed]
      refine iteT ?_
      have S2 : StAt G H2 Ag gs := S.go s2 (Same.refl G) (S.sG.trans s2) S.fr
      refine ⟨_, rfl, _, rfl, G, Ag, gs, b1, b0, b1, P1, rfl, S2, by rw [hX]; exact st, by rw [hX]; exact sz, fun H3 G' gs' sg S3 e => ?_⟩
      refine ⟨_, rfl, _, rfl, _, _, rfl, rfl, ts.length, Nat.lt_succ_self _, pre ++ [b1], ts, b1, G', gs', some (.str ⟨#[b1]⟩), o5, rfl, ?_, by rw [e]; exact hr2, S3, sH.trans sg, ?_⟩
      · rw [hz', List.append_assoc]
        rfl
      · rw [List.length_append]
        rfl
    | nm x =>
      have l1 : (tkL (.nm x)).length = x.length + 2 := by
        show (60 :: (x.cps.toList ++ [62])).length = _
        rw [List.length_cons, List.length_append, ← Gd.len_list]
        rfl
      rw [l1] at lz
      refine iteB (fun _ => ?_) (fun c1 => absurd (of_decide_eq_false c1) (by omega))
      have hzz : z.cps.toList = pre ++ 60 :: (x.cps.toList ++ 62 :: ts.flatMap tkL) := by
        rw [hz']
        show pre ++ (60 :: (x.cps.toList ++ [62]) ++ ts.flatMap tkL) = _
        rw [List.cons_append, List.append_assoc]
        rfl
      have ec : atI z.cps.toList ((pre.length : Nat) : Int) = some 60 := atI_nat (by
        rw [hzz, List.getElem?_append_right (Nat.le_refl _), Nat.sub_self]
        rfl)
      cases st with
      | @name P0 D0 R0 _ nx =>
      obtain ⟨gs0, g, rs, r, vs, rfl, hP, hD⟩ := gv_last hX
      refine ⟨_, fun _ _ h => h, ?_⟩
      refine ⟨_, rfl, _, rfl, z, _, 60, rfl, rfl, by omega, ec, ?_⟩
      refine ⟨_, rfl, rfl, _, rfl, ?_⟩
      rw [sgEq 60 (Str.ofString "<") 60 (by decide +kernel)]
      refine iteB (fun _ => ?_) (fun c1 => absurd (of_decide_eq_false c1) (by decide))
      refine ⟨_, rfl, _, rfl, z, x, pre, ts.flatMap tkL, rfl, hzz, hzl, nx.1, nx.2.1, nx.2.2, fun H2 s2 => ?_⟩
      have S2 : StAt G H2 Ag (gs0 ++ [(g, rs ++ [(r, vs, R0)])]) := S.go s2 (Same.refl G) (S.sG.trans s2) S.fr
      obtain ⟨hT, hg, hr', hts, szr⟩ := last_facts S2 sz hX
      refine ⟨_, rfl, 1, rfl, Ag, _, _, _, rfl, rfl, SqL.of hT, atI_last, 1, rfl, g, _, _, _, rfl, rfl, SqL.of hg, atI_last, .inl ⟨rfl, _, SqL.of hr'⟩, _, rfl, _, rfl, _, _, rfl, rfl, _, rfl, _, rfl, _, rfl, z, rfl, by omega, ?_⟩
      rw [cut_mid hzz]
      refine ⟨by show 2 ≤ sizeLine; omega, fun e he => ⟨r, vs, _, rfl, rfl, by rw [upd_ne (ne_of_none hr' he)]; exact hr', by omega, ?_⟩⟩
      obtain ⟨a1, a2⟩ := add_leaf (t := .name x) S2 he (.name upd_same)
      refine ⟨_, rfl, _, rfl, _, rfl, _, _, rfl, rfl, ts.length, Nat.lt_succ_self _, pre ++ tkL (.nm x), ts, 60, _, _, some (.str ⟨#[60]⟩), some (.int ((pre.length + 1 + x.length : Nat) : Int)), rfl, ?_, ?_, a2, sH.trans a1, ?_⟩
      · rw [hz', List.append_assoc]
      · rw [gv_row, hP, hD]
        exact hr2
      · rw [List.length_append, l1]
        show [some (V.str z), some (V.ref Ag), some (V.str ⟨#[60]⟩), some (V.int (((pre.length + 1 + x.length : Nat) : Int) + 1)), some (V.str ⟨#[60]⟩), some (V.int ((pre.length + 1 + x.length : Nat) : Int))] = _
        rw [show (((pre.length + 1 + x.length : Nat) : Int) + 1) = ((pre.length + (x.length + 2) : Nat) : Int) by omega]
end
end KT

namespace KT
open PySem L2 Gd
/-! ### the marks of a tree's expression, and what they do to the open groups -/
def parK (b : Bool) (x : List Tk) : List Tk := if b then .ch 40 :: (x ++ [.ch 41]) else x
mutual
def tok0 : Tr → List Tk
  | .none => [.ch 48]
  | .empty => []
  | .letter c => [.ch c]
  | .name x => [.nm x]
  | .sgn k u => parK (needs u 3) (tok0 u) ++ [.ch (sgc k)]
  | .seq l => toksS l
  | .cho l => (toksB l).drop 1
def toksS : List Tr → List Tk
  | [] => []
  | t :: l => parK (needs t 2) (tok0 t) ++ toksS l
def toksB : List Tr → List Tk
  | [] => []
  | t :: l => .ch 124 :: (parK (needs t 1) (tok0 t) ++ toksB l)
end
def rowOf : Tr → List Tr
  | .empty => []
  | .seq l => l
  | t => [t]
theorem rowT_rowOf : ∀ {t : Tr}, t.Wf → rowT (rowOf t) = t
  | .seq l, h => by
    have h1 : 2 ≤ l.length := h.1
    match l, h1 with
    | _ :: _ :: _, _ => rfl
  | .none, _ => rfl
  | .empty, _ => rfl
  | .letter _, _ => rfl
  | .name _, _ => rfl
  | .sgn _ _, _ => rfl
  | .cho _, _ => rfl
theorem rowOf_len : ∀ {t : Tr}, t.Wf → (rowOf t).length ≤ 1000
  | .seq l, h => h.2.1
  | .none, _ => by decide
  | .empty, _ => by decide
  | .letter _, _ => by show 1 ≤ 1000; omega
  | .name _, _ => by show 1 ≤ 1000; omega
  | .sgn _ _, _ => by show 1 ≤ 1000; omega
  | .cho _, _ => by show 1 ≤ 1000; omega
theorem Run.app {b b1 b2 : Nat} {P P1 P2 : PG} {x y : List Tk} (h : Run b P x b1 P1) (g : Run b1 P1 y b2 P2) : Run b P (x ++ y) b2 P2 := by
  induction h with
  | nil => exact g
  | cons s st _ ih => exact .cons s st (ih g)
theorem Run.one {b b1 : Nat} {P P1 : PG} {t : Tk} (s : Sz P) (st : Stp b P t b1 P1) : Run b P [t] b1 P1 := .cons s st .nil
theorem Sz.put {P : PG} {X Y : List (List Tr)} (s : Sz (P ++ [X])) (h1 : Y.length ≤ 1000) (h2 : ∀ R ∈ Y, R.length ≤ 1000) : Sz (P ++ [Y]) := by
  refine ⟨by have := s.1; rw [List.length_append] at this ⊢; exact this, fun rows hr => ?_⟩
  rcases List.mem_append.mp hr with h | h
  · exact s.2 rows (List.mem_append_left _ h)
  · obtain rfl : rows = Y := by simpa using h
    exact ⟨h1, h2⟩
theorem Sz.row {P : PG} {D : List (List Tr)} {R R' : List Tr} (s : Sz (P ++ [D ++ [R]])) (h : R'.length ≤ 1000) : Sz (P ++ [D ++ [R']]) := by
  have h0 := s.2 (D ++ [R]) (List.mem_append_right _ List.mem_cons_self)
  refine s.put (by have := h0.1; rw [List.length_append] at this ⊢; exact this) (fun Q hQ => ?_)
  rcases List.mem_append.mp hQ with g | g
  · exact h0.2 Q (List.mem_append_left _ g)
  · obtain rfl : Q = R' := by simpa using g
    exact h
theorem Sz.open {P : PG} (s : Sz P) (h : P.length < 1000) : Sz (P ++ [[[]]]) := by
  refine ⟨by rw [List.length_append]; show P.length + 1 ≤ 1000; omega, fun rows hr => ?_⟩
  rcases List.mem_append.mp hr with h | h
  · exact s.2 rows h
  · obtain rfl : rows = [[]] := by simpa using h
    exact ⟨by decide, fun R hR => by obtain rfl : R = [] := by simpa using hR
                                     decide⟩
def Item (t : Tr) (p : Int) : Prop := ∀ (b : Nat) (P0 : PG) (D : List (List Tr)) (R : List Tr), P0.length + t.height ≤ 20 → Sz (P0 ++ [D ++ [R]]) → R.length + 1 ≤ 1000 →
  ∃ b', Run b (P0 ++ [D ++ [R]]) (parK (needs t p) (tok0 t)) b' (P0 ++ [D ++ [R ++ [t]]]) ∧ (p = 3 → isSig b' = false ∧ b' ≠ 124 ∧ b' ≠ 40)
def InRow (t : Tr) : Prop := ∀ (b : Nat) (P0 : PG) (D : List (List Tr)), P0.length + t.height ≤ 21 → Sz (P0 ++ [D ++ [[]]]) → ∃ b', Run b (P0 ++ [D ++ [[]]]) (tok0 t) b' (P0 ++ [D ++ [rowOf t]])
def InG (t : Tr) : Prop := ∀ (b : Nat) (P0 : PG), P0.length + t.height ≤ 21 → Sz (P0 ++ [[[]]]) → ∃ b' D R, Run b (P0 ++ [[[]]]) (tok0 t) b' (P0 ++ [D ++ [R]]) ∧ groupT (D ++ [R]) = t ∧ Sz (P0 ++ [D ++ [R]])
theorem items {P0 : PG} {D : List (List Tr)} : ∀ (l : List Tr) (b : Nat) (R : List Tr), (∀ t ∈ l, Item t 2 ∧ P0.length + t.height ≤ 20) → Sz (P0 ++ [D ++ [R]]) → R.length + l.length ≤ 1000 →
    ∃ b', Run b (P0 ++ [D ++ [R]]) (toksS l) b' (P0 ++ [D ++ [R ++ l]])
  | [], b, R, _, _, _ => ⟨b, by rw [List.append_nil]; exact .nil⟩
  | t :: l, b, R, h, s, hl => by
    rw [List.length_cons] at hl
    obtain ⟨b1, r1, _⟩ := (h t List.mem_cons_self).1 b P0 D R (h t List.mem_cons_self).2 s (by omega)
    obtain ⟨b2, r2⟩ := items l b1 (R ++ [t]) (fun u hu => h u (List.mem_cons_of_mem _ hu)) (s.row (by rw [List.length_append]; show R.length + 1 ≤ 1000; omega)) (by rw [List.length_append]; show R.length + 1 + l.length ≤ 1000; omega)
    rw [List.append_assoc] at r2
    exact ⟨b2, r1.app r2⟩
/-- a row of a choice -/
def RowC (t : Tr) : Prop := ∀ (b : Nat) (P0 : PG) (D : List (List Tr)), P0.length + t.height ≤ 20 → Sz (P0 ++ [D ++ [[]]]) → ∃ b', Run b (P0 ++ [D ++ [[]]]) (parK (needs t 1) (tok0 t)) b' (P0 ++ [D ++ [rowOf t]])
theorem rows {P0 : PG} : ∀ (l : List Tr) (b : Nat) (D : List (List Tr)) (R : List Tr), (∀ t ∈ l, RowC t ∧ P0.length + t.height ≤ 20 ∧ t.Wf) → Sz (P0 ++ [D ++ [R]]) → D.length + 1 + l.length ≤ 1000 →
    ∃ b' D' R', Run b (P0 ++ [D ++ [R]]) (toksB l) b' (P0 ++ [D' ++ [R']]) ∧ D' ++ [R'] = D ++ [R] ++ l.map rowOf ∧ Sz (P0 ++ [D' ++ [R']])
  | [], b, D, R, _, s, _ => ⟨b, D, R, .nil, by rw [List.map_nil, List.append_nil], s⟩
  | t :: l, b, D, R, h, s, hl => by
    rw [List.length_cons] at hl
    have h0 := s.2 (D ++ [R]) (List.mem_append_right _ List.mem_cons_self)
    have s1 : Sz (P0 ++ [D ++ [R] ++ [[]]]) := s.put (by rw [List.length_append, List.length_append]; show D.length + 1 + 1 ≤ 1000; omega) (fun Q hQ => by
      rcases List.mem_append.mp hQ with g | g
      · exact h0.2 Q g
      · obtain rfl : Q = [] := by simpa using g
        exact Nat.zero_le _)
    obtain ⟨c1, c2, c3⟩ := h t List.mem_cons_self
    obtain ⟨b1, r1⟩ := c1 124 P0 (D ++ [R]) c2 s1
    obtain ⟨b2, D', R', r2, e, s2⟩ := rows l b1 (D ++ [R]) (rowOf t) (fun u hu => h u (List.mem_cons_of_mem _ hu)) (s1.row (rowOf_len c3)) (by rw [List.length_append]; show D.length + 1 + 1 + l.length ≤ 1000; omega)
    exact ⟨b2, D', R', .cons s .bar (r1.app r2), by rw [e, List.map_cons]; simp, s2⟩
theorem item_of {t : Tr} {p : Int} (hp : p = 2 ∨ p = 3) (hw : t.Wf) (hg : InG t) (hs : ∀ k u, t = .sgn k u → Item u 3) : Item t p := by
  intro b P0 D R hh s hR
  have ln : (P0 ++ [D ++ [R]]).length = P0.length + 1 := by rw [List.length_append]; rfl
  by_cases hn : needs t p = true
  · rw [hn]
    have s1 : Sz (P0 ++ [D ++ [R]] ++ [[[]]]) := s.open (by rw [ln]; omega)
    have pos : 1 ≤ t.height := by cases t <;> (unfold Tr.height; omega)
    obtain ⟨b1, D2, R2, r1, e1, s2⟩ := hg 40 (P0 ++ [D ++ [R]]) (by rw [ln]; omega) s1
    refine ⟨41, ?_, fun _ => by decide⟩
    have c : Stp b1 (P0 ++ [D ++ [R]] ++ [D2 ++ [R2]]) (.ch 41) 41 (P0 ++ [D ++ [R ++ [groupT (D2 ++ [R2])]]]) := .cls
    rw [e1] at c
    exact .cons s (.opn (by omega)) (r1.app (Run.one s2 c))
  · rw [Bool.not_eq_true] at hn
    rw [hn]
    show ∃ b', Run b (P0 ++ [D ++ [R]]) (tok0 t) b' _ ∧ _
    cases t with
    | none => exact ⟨48, Run.one s .zero, fun _ => by decide⟩
    | letter c =>
      have lc : low c = true := hw
      have lc' := lc
      unfold low at lc'
      rw [Bool.and_eq_true, decide_eq_true_eq, decide_eq_true_eq] at lc'
      refine ⟨c, Run.one s (.letter lc), fun _ => ⟨?_, by omega, by omega⟩⟩
      unfold isSig
      rw [decide_eq_false (by omega), decide_eq_false (by omega), decide_eq_false (by omega)]
      rfl
    | name x => exact ⟨60, Run.one s (.name hw), fun _ => by decide⟩
    | sgn k u =>
      have e : ¬ (p = 3) := fun z => by rw [z] at hn; exact nomatch hn
      have h2 : P0.length + (u.height + 1) ≤ 20 := hh
      obtain ⟨b1, r1, ok⟩ := hs k u rfl b P0 D R (by omega) s hR
      obtain ⟨o1, o2, o3⟩ := ok rfl
      exact ⟨sgc k, r1.app (Run.one (s.row (by rw [List.length_append]; exact hR)) (.sgn o1 o2 o3)), fun z => absurd z e⟩
    | empty => rcases hp with rfl | rfl <;> exact nomatch hn
    | seq l => rcases hp with rfl | rfl <;> exact nomatch hn
    | cho l => rcases hp with rfl | rfl <;> exact nomatch hn
theorem wfs_mem : ∀ {l : List Tr}, Wfs l → ∀ t ∈ l, t.Wf
  | [], _, _, h => nomatch h
  | u :: l, w, t, h => by
    rcases List.mem_cons.mp h with rfl | h
    · exact w.1
    · exact wfs_mem w.2 t h
theorem heights_mem : ∀ {l : List Tr}, ∀ t ∈ l, t.height ≤ heights l
  | [], _, h => nomatch h
  | u :: l, t, h => by
    have e : heights (u :: l) = max u.height (heights l) := by rw [heights]
    rcases List.mem_cons.mp h with rfl | h
    · omega
    · have := heights_mem t h
      omega
def AllT (t : Tr) : Prop := InG t ∧ Item t 2 ∧ Item t 3 ∧ RowC t
theorem row_of {t : Tr} (h2 : Item t 2) (hr : (∀ l, t ≠ .cho l) → InRow t) : RowC t := by
  intro b P0 D hh s
  have go : needs t 1 = false → (∀ l, t ≠ .cho l) → ∃ b', Run b (P0 ++ [D ++ [[]]]) (parK (needs t 1) (tok0 t)) b' (P0 ++ [D ++ [rowOf t]]) := fun e z => by
    rw [e]
    exact hr z b P0 D (by omega) s
  cases t with
  | cho l =>
    obtain ⟨b1, r1, _⟩ := h2 b P0 D [] hh s (by decide)
    exact ⟨b1, r1⟩
  | none => exact go rfl (fun l z => nomatch z)
  | empty => exact go rfl (fun l z => nomatch z)
  | letter c => exact go rfl (fun l z => nomatch z)
  | name x => exact go rfl (fun l z => nomatch z)
  | sgn k u => exact go rfl (fun l z => nomatch z)
  | seq l => exact go rfl (fun l z => nomatch z)
theorem inrow_of {t : Tr} (hw : t.Wf) (ih : ∀ u : Tr, u.height < t.height → u.Wf → AllT u) (hc : ∀ l, t ≠ .cho l) : InRow t := by
  intro b P0 D hh s
  cases t with
  | cho l => exact absurd rfl (hc l)
  | none => exact ⟨48, Run.one s (.zero (R := []))⟩
  | empty => exact ⟨b, .nil⟩
  | letter c => exact ⟨c, Run.one s (.letter (R := []) hw)⟩
  | name x => exact ⟨60, Run.one s (.name (R := []) hw)⟩
  | sgn k u =>
    have h2 : P0.length + (u.height + 1) ≤ 21 := hh
    obtain ⟨b1, r1, ok⟩ := (ih u (Nat.lt_succ_self _) hw).2.2.1 b P0 D [] (by omega) s (by decide)
    obtain ⟨o1, o2, o3⟩ := ok rfl
    exact ⟨sgc k, r1.app (Run.one (s.row (by show 1 ≤ 1000; omega)) (.sgn (R := []) o1 o2 o3))⟩
  | seq l =>
    have h2 : P0.length + (heights l + 1) ≤ 21 := hh
    obtain ⟨b1, r1⟩ := items (P0 := P0) (D := D) l b [] (fun u hu => ⟨(ih u (Nat.lt_succ_of_le (heights_mem u hu)) (wfs_mem hw.2.2 u hu)).2.1, by have := heights_mem u hu; omega⟩) s (by have := hw.2.1; show 0 + l.length ≤ 1000; omega)
    exact ⟨b1, r1⟩
theorem ing_of {t : Tr} (hw : t.Wf) (ih : ∀ u : Tr, u.height < t.height → u.Wf → AllT u) : InG t := by
  intro b P0 hh s
  have go : (∀ l, t ≠ .cho l) → ∃ b' D R, Run b (P0 ++ [[[]]]) (tok0 t) b' (P0 ++ [D ++ [R]]) ∧ groupT (D ++ [R]) = t ∧ Sz (P0 ++ [D ++ [R]]) := fun z => by
    obtain ⟨b1, r1⟩ := inrow_of hw ih z b P0 [] hh s
    exact ⟨b1, [], rowOf t, r1, rowT_rowOf hw, Sz.row (D := []) s (rowOf_len hw)⟩
  cases t with
  | cho l =>
    cases l with
    | nil => exact absurd hw.1 (by decide)
    | cons t0 l =>
      have h2 : P0.length + (heights (t0 :: l) + 1) ≤ 21 := hh
      have hall : ∀ u ∈ t0 :: l, RowC u ∧ P0.length + u.height ≤ 20 ∧ u.Wf := fun u hu => ⟨(ih u (Nat.lt_succ_of_le (heights_mem u hu)) (wfs_mem hw.2.2 u hu)).2.2.2, by have := heights_mem u hu; omega, wfs_mem hw.2.2 u hu⟩
      obtain ⟨c1, c2, c3⟩ := hall t0 List.mem_cons_self
      obtain ⟨b1, r1⟩ := c1 b P0 [] c2 s
      have hl : (t0 :: l).length ≤ 1000 := hw.2.1
      have h1 : 2 ≤ (t0 :: l).length := hw.1
      obtain ⟨b2, D', R', r2, e, s2⟩ := rows l b1 [] (rowOf t0) (fun u hu => hall u (List.mem_cons_of_mem _ hu)) (Sz.row (D := []) s (rowOf_len c3)) (by rw [List.length_cons] at hl; show 0 + 1 + l.length ≤ 1000; omega)
      refine ⟨b2, D', R', r1.app r2, ?_, s2⟩
      rw [e]
      have em : (rowOf t0 :: l.map rowOf).map rowT = t0 :: l := by
        rw [List.map_cons, rowT_rowOf c3, List.map_map]
        have : l.map (rowT ∘ rowOf) = l.map id := List.map_congr_left (fun u hu => rowT_rowOf (hall u (List.mem_cons_of_mem _ hu)).2.2)
        rw [this, List.map_id]
      have : groupT (rowOf t0 :: l.map rowOf) = .cho ((rowOf t0 :: l.map rowOf).map rowT) := group2 (by rw [List.length_cons, List.length_map]; rw [List.length_cons] at h1; exact h1)
      rw [em] at this
      exact this
  | none => exact go (fun l z => nomatch z)
  | empty => exact go (fun l z => nomatch z)
  | letter c => exact go (fun l z => nomatch z)
  | name x => exact go (fun l z => nomatch z)
  | sgn k u => exact go (fun l z => nomatch z)
  | seq l => exact go (fun l z => nomatch z)
theorem all_of : ∀ (n : Nat) (t : Tr), t.height ≤ n → t.Wf → AllT t := by
  intro n
  induction n with
  | zero => exact fun t h _ => absurd h (by cases t <;> (unfold Tr.height; omega))
  | succ n ih =>
    intro t h hw
    have ih' : ∀ u : Tr, u.height < t.height → u.Wf → AllT u := fun u hu => ih u (by omega)
    have g := ing_of hw ih'
    have hs : ∀ k u, t = .sgn k u → Item u 3 := fun k u e => by
      subst e
      exact (ih' u (Nat.lt_succ_self _) hw).2.2.1
    have i2 := item_of (p := 2) (.inl rfl) hw g hs
    exact ⟨g, i2, item_of (.inr rfl) hw g hs, row_of i2 (inrow_of hw ih')⟩
/-- a tree's marks are read as the tree -/
theorem run_tree {t : Tr} (hw : t.Wf) (hh : t.height ≤ 21) : ∃ b' D R, Run 40 [[[]]] (tok0 t) b' [D ++ [R]] ∧ groupT (D ++ [R]) = t ∧ Sz [D ++ [R]] :=
  (all_of t.height t (Nat.le_refl _) hw).1 40 [] (by show 0 + t.height ≤ 21; omega) ⟨by decide, fun rows h => by
    obtain rfl : rows = [[]] := by simpa using h
    exact ⟨by decide, fun R hR => by obtain rfl : R = [] := by simpa using hR
                                     decide⟩⟩
/-! the expression is its marks -/
theorem par_toks {b : Bool} {x : Str} {y : List Tk} (h : x.cps.toList = y.flatMap tkL) : (par b x).cps.toList = (parK b y).flatMap tkL := by
  have e1 : (Str.ofString "(").cps.toList = [40] := by decide +kernel
  have e2 : (Str.ofString ")").cps.toList = [41] := by decide +kernel
  have e0 : Str.empty.cps.toList = [] := rfl
  cases b with
  | false => exact h
  | true =>
    show (Str.empty ++ Str.ofString "(" ++ x ++ Str.ofString ")").cps.toList = (Tk.ch 40 :: (y ++ [Tk.ch 41])).flatMap tkL
    rw [Gd.app_list, Gd.app_list, Gd.app_list, e0, e1, e2, h, List.flatMap_cons, List.flatMap_append]
    simp [tkL]
theorem join0_cons (x : Str) (l : List Str) : (Str.join "" (x :: l)).cps.toList = x.cps.toList ++ (Str.join "" l).cps.toList := by
  cases l with
  | nil => 
    show x.cps.toList = x.cps.toList ++ []
    rw [List.append_nil]
  | cons y r =>
    have e : (("" : String) : Str).cps.toList = [] := by decide +kernel
    show (x ++ "" ++ Str.join "" (y :: r)).cps.toList = _
    rw [Gd.app_list, Gd.app_list, e, List.append_nil]
theorem joinb_cons (x : Str) (l : List Str) : 124 :: (Str.join "|" (x :: l)).cps.toList = 124 :: (x.cps.toList ++ (if l = [] then [] else 124 :: (Str.join "|" l).cps.toList)) := by
  cases l with
  | nil => 
    show 124 :: x.cps.toList = 124 :: (x.cps.toList ++ [])
    rw [List.append_nil]
  | cons y r =>
    have e : (("|" : String) : Str).cps.toList = [124] := by decide +kernel
    show 124 :: (x ++ "|" ++ Str.join "|" (y :: r)).cps.toList = _
    rw [Gd.app_list, Gd.app_list, e, List.append_assoc]
    rfl
mutual
theorem wr_toks : ∀ t : Tr, (wr0 t).cps.toList = (tok0 t).flatMap tkL
  | .none => by rw [wr0, tok0]; decide +kernel
  | .empty => by rw [wr0, tok0]; decide +kernel
  | .letter c => by rw [wr0, tok0]; rfl
  | .name x => by
    have e1 : (Str.ofString "<").cps.toList = [60] := by decide +kernel
    have e2 : (Str.ofString ">").cps.toList = [62] := by decide +kernel
    rw [wr0, tok0, Gd.app_list, Gd.app_list, Gd.app_list, e1, e2]
    simp [tkL, Str.empty]
  | .sgn k u => by
    have ek : ∀ k : _root_.Fin 3, (sgTx k).cps.toList = [sgc k] := by decide +kernel
    rw [wr0, tok0, Gd.app_list, par_toks (wr_toks u), ek, List.flatMap_append]
    rfl
  | .seq l => by
    rw [wr0, tok0, join_str]
    exact wrs_toks l
  | .cho l => by
    rw [wr0, tok0, join_str]
    have h := wrb_toks l
    cases l with
    | nil => decide +kernel
    | cons t l =>
      rw [if_neg (List.cons_ne_nil _ _)] at h
      rw [toksB] at h ⊢
      injection h with _ h
theorem wrs_toks : ∀ l : List Tr, (Str.join "" (wrs l 2)).cps.toList = (toksS l).flatMap tkL
  | [] => by rw [wrs, toksS]; rfl
  | t :: l => by rw [wrs, toksS, join0_cons, par_toks (wr_toks t), wrs_toks l, List.flatMap_append]
theorem wrb_toks : ∀ l : List Tr, (if l = [] then [] else 124 :: (Str.join "|" (wrs l 1)).cps.toList) = (toksB l).flatMap tkL
  | [] => by rw [toksB]; rfl
  | t :: l => by
    have ih := wrb_toks l
    rw [if_neg (List.cons_ne_nil _ _), wrs, toksB, joinb_cons, par_toks (wr_toks t)]
    have e : (if wrs l 1 = [] then [] else 124 :: (Str.join "|" (wrs l 1)).cps.toList) = (toksB l).flatMap tkL := by
      rw [← ih]
      cases l with
      | nil => rw [wrs]; rfl
      | cons u l => rw [if_neg (List.cons_ne_nil _ _), if_neg (by rw [wrs]; exact List.cons_ne_nil _ _)]
    rw [e, List.flatMap_cons, List.flatMap_append]
    rfl
end
end KT

namespace KT
open PySem L2 Gd
/-- the tree of its own expression -/
def spParseT : Sp := fun vs H Q _ => ∃ t : Tr, vs = [.str (wr0 t)] ∧ t.Wf ∧ t.height ≤ 21 ∧ (wr0 t).length ≤ 100000 ∧ ∀ v H', Same H H' → TrAt H' v t → Q v H'
theorem spParseT_le {vs : List V} {H : Hp} {Q : VK} {E : XK} (h : spParseT vs H Q E) : spParse vs H Q E := by
  obtain ⟨t, rfl, hw, hh, hl, q⟩ := h
  obtain ⟨b', D, R, r, e, s⟩ := run_tree hw hh
  exact ⟨wr0 t, tok0 t, b', D, R, rfl, wr_toks t, hl, r, s, by rw [e]; exact q⟩
theorem parse_tree {P : Program} {w : World} {K : PySem.W.Frag} {mg : Str → Option Value} {base : Heap} {CX : CXT} {k : Nat} {f : Addr} {fd : FuncData} {ps : List Str} (F : FnG P w K mg base CX k f fd ps spParse) : FnG P w K mg base CX k f fd ps spParseT :=
  ⟨fun vs H Q E h => F.len vs H Q E (spParseT_le h), fun A outer s H args us vs Q E hc hr e0 hb r h => F.run A outer s H args us vs Q E hc hr e0 hb r (spParseT_le h)⟩
end KT

namespace KT
open PySem L2 Gd
/-- a table of names and trees -/
def TabsAt (G : Hp) (kvs : List (Key × V)) : Prop := ∀ k v, (k, v) ∈ kvs → ∃ x u, k = Sum.inr x ∧ NmOk x ∧ valV kvs k = some v ∧ TrAt G v u ∧ u.Wf ∧ u.height ≤ 21
def spTab : Sp := fun vs H Q _ => ∃ (G : Hp) (d : Addr) (kvs : List (Key × V)), vs = [.ref d] ∧ Same G H ∧ G d = none ∧ H d = some (.dK kvs) ∧ kvs.length ≤ 1000 ∧ TabsAt G kvs ∧ ∀ H', Same H H' → Q (.bl true) H'
section
variable {P : Program} {w : World} {K : PySem.W.Frag} {mg : Str → Option Value} {base : Heap} {aS aL : Addr} {es : Array DictEntry} {n : Nat}
abbrev sis_tree_table : Stmt := top 41
theorem scis_tree_table : FnScope ["value", "key"] ["value"] (defScope sis_tree_table) := ⟨rfl, rfl, rfl, by decide +kernel, rfl, by decide +kernel, by decide +kernel⟩
theorem ok_tab {f f1 f2 : Addr} {fd fd1 fd2 : FuncData} (F : Fun K "is_tree_table" "is_tree_table" sis_tree_table f fd) (T : Txt w K mg base aS aL es n) (zd : mg "dict" = none)
    (D_is_name : Df P w K mg base CX0 2 "is_name" f1 fd1 ["value"] (spAsk isNam)) (D_is_tree : Df P w K mg base CX0 87 "is_tree" f2 fd2 ["value"] spIsTree) : FnG P w K mg base CX0 88 f fd ["value"] spTab := by
  refine okG F scis_tree_table (fun vs H Q E h => ?_) (fun cdv A outer s H vs Q E hc hr h => ?_)
  · obtain ⟨G, d, kvs, rfl, _⟩ := h
    rfl
  obtain ⟨G, d, kvs, rfl, sG, hGd, hd, hn, tab, q⟩ := h
  refine ⟨_, (pss_cons (ps_if (pt_not (pt_val (pe_callB call_isk (by rfl) T.z_isinstance (by decide +kernel) (pa_cons (pv 0) (pa_cons (pe_bltn (v := .ty "dict") (by rfl) zd (by decide +kernel) rfl) pa_nil)))))
  (pss_one (ps_ret pe_bl)) pss_nil)
 (pss_one (ps_lock <| ps_ret (pe_callB (cr_all rfl) (by rfl) T.z_all (by decide +kernel) (pa_cons (pe_lc (own := [("key", 1)]) (g := gName 1) rfl scis_tree_table.nd (pi_keys (pv 0)) (blkOk_by (N := ["value", "key"]) (sc := defScope sis_tree_table) (by decide +kernel)) (fun _ _ _ _ _ => pg_name (i := 1) scis_tree_table.nd rfl (Or.inl rfl)) (fun _ _ _ _ _ => pts_nil) (fun _ _ _ _ _ => (pe_and (pe_d D_is_name hc (hr.mono (by omega)) (by rfl) (fun _ => passN) (pa_cons (pv 1) pa_nil)) (pe_one (pe_d D_is_tree hc (hr.mono (by omega)) (by rfl) (fun _ => passN) (pa_cons (pe_dget (hu_of hr) (pv 0) (pv 1) (fun _ _ => rfl)) pa_nil)))))) pa_nil))))), ?_⟩
  have z16 := sizeLine_eq
  have kk : kind H (.ref d) = .dct := by
    show kindO (H d) = _
    rw [hd]
    rfl
  refine ⟨_, rfl, .ref d, "dict", rfl, .inr (.inr (.inr (.inr (.inr rfl)))), by unfold Pv; rw [kk]; exact (fun z => nomatch z), _, rfl, ?_⟩
  rw [kk]
  refine iteB (fun c => absurd c (by decide +kernel)) (fun _ => ?_)
  refine ⟨d, .dK kvs, hd, trivial, fun od => ?_⟩
  have sGf : Same G (upd H d (.frz od (.dK kvs))) := fun c o h => by
    rw [upd_ne (ne_of_none h hGd)]
    exact sG _ _ h
  refine ⟨_, rfl, d, od, rfl, .inl ⟨kvs, upd_same, fun D hD => ?_⟩⟩
  have hdD : d ≠ D := fun z => by rw [← z, upd_same] at hD; exact nomatch hD
  refine ⟨fun i m H' => m = kvs.length - i ∧ i ≤ kvs.length ∧ H' D = some (.lst ((List.replicate i true).map V.bl)) ∧ Same (upd H d (.frz od (.dK kvs))) H', ⟨_, rfl, Nat.zero_le _, upd_same, fun c o h => by rw [upd_ne (ne_of_none h hD)]; exact h⟩, ?_⟩
  rintro i m H' ⟨rfl, hi, hD', s1⟩
  have hfz := s1 _ _ upd_same
  rcases Nat.lt_or_ge i kvs.length with hlt | hge
  · refine .inr ⟨⟨hfz, hlt⟩, _, fun _ h => h, ?_⟩
    rintro x _ ⟨rfl, k, v, hk, rfl⟩
    obtain ⟨y, u, rfl, nm, hv, ht, hw, hh⟩ := tab k v (List.mem_of_getElem? hk)
    refine ⟨wipe1 _ _ _, yes_go ?_⟩
    have inm : isNam (.str y) = true := by
      show (decide (1 ≤ y.length) && (decide (y.length ≤ 8) && y.cps.toList.all low)) = true
      rw [decide_eq_true nm.2.1, decide_eq_true nm.1.len, nm.2.2]
      rfl
    refine ⟨_, rfl, .str y, rfl, (fun z => nomatch z), (fun z e => by injection e with e; rw [← e]; exact nm.1.mono (by decide)), fun H2 s2 => ⟨_, rfl, ?_⟩⟩
    rw [inm]
    refine iteT ?_
    have s12 := s1.trans s2
    refine ⟨_, rfl, _, rfl, d, v, rfl, .inl ⟨kvs, Sum.inr y, .inr ⟨od, s12 _ _ upd_same⟩, rfl, hv.symm⟩, .inl ⟨v, u, rfl, ht.same (sGf.trans s12), hw, hh, fun H3 s3 => ⟨_, s3 _ _ (s2 _ _ hD'), by rw [List.length_map, List.length_replicate]; omega, _, by omega, rfl, hlt, ?_, ?_⟩⟩⟩
    · rw [upd_same, List.replicate_succ', List.map_append]
      rfl
    · intro c o h
      rw [upd_ne (ne_of_none h hD)]
      exact s3 _ _ (s12 _ _ h)
  · refine .inl ⟨⟨hfz, hge⟩, D, List.replicate i true, rfl, SqL.of hD', hfz, ?_⟩
    have ea : (List.replicate i true).all id = true := List.all_eq_true.mpr fun b hb => (List.mem_replicate.mp hb).2
    rw [ea]
    refine q _ fun c o h => ?_
    by_cases z : c = d
    · rw [z] at h ⊢
      rw [upd_same, ← hd]
      exact h
    · rw [upd_ne z]
      exact s1 _ _ (by rw [upd_ne z]; exact h)
end
end KT

namespace KT
open PySem L2 Gd
def spWith : Sp := fun vs H Q _ => ∃ (G : Hp) (v : V) (t : Tr) (d : Addr) (kvs : List (Key × V)) (tb : Str → Option Tr), vs = [v, .ref d] ∧ Same G H ∧ G d = none ∧ TrAt G v t ∧ t.Wf ∧ t.height ≤ 21 ∧ nd t ≤ 1000 ∧ H d = some (.dK kvs) ∧ kvs.length ≤ 1000 ∧ TabsAt G kvs ∧ TabAt G kvs tb 21 ∧
  (∀ x ∈ wo sName t, Tx 8 x ∧ (valV kvs (Sum.inr x)).isSome = true) ∧ (rep tb t).Wf ∧ (rep tb t).height ≤ 21 ∧ ∀ v' H', Same H H' → TrAt H' v' (rep tb t) → Q v' H'
section
variable {P : Program} {w : World} {K : PySem.W.Frag} {mg : Str → Option Value} {base : Heap} {aS aL C_L f_L C_U f_U : Addr} {es : Array DictEntry} {n : Nat}
abbrev swith_names : Stmt := top 40
theorem scwith_names : FnScope ["tree", "table", "name", "result"] ["tree", "table"] (defScope swith_names) := ⟨rfl, rfl, rfl, by decide +kernel, rfl, by decide +kernel, by decide +kernel⟩
theorem ok_with {f f1 f2 f3 f4 : Addr} {fd fd1 fd2 fd3 fd4 : FuncData} (F : Fun K "with_names" "with_names" swith_names f fd) (T : Txt w K mg base aS aL es n)
    (D_require_tree : Df P w K mg base (L2.CX P w) 88 "require_tree" f1 fd1 ["value"] spRequire) (D_is_tree_table : Df P w K mg base CX0 88 "is_tree_table" f2 fd2 ["value"] spTab) (D_words_of : Df P w K mg base CX0 1 "words_of" f3 fd3 ["tree", "kind"] spWords) (D_replaced : Df P w K mg base CX0 42 "replaced" f4 fd4 ["tree", "table"] (spRep 42)) : FnG P w K mg base (L2.CX P w) 89 f fd ["tree", "table"] spWith := by
  refine okG F scwith_names (fun vs H Q E h => ?_) (fun cdv A outer s H vs Q E hc hr h => ?_)
  · obtain ⟨G, v, t, d, kvs, tb, rfl, _⟩ := h
    rfl
  obtain ⟨G, v, t, d, kvs, tb, rfl, sG, hGd, ht, hw, hh, hnd, hd, hn, tab, tab2, hnm, hrw, hrh, q⟩ := h
  refine ⟨_, (pss_cons (ps_expr (pe_d D_require_tree hc (hr.mono (by omega)) (by rfl) (fun _ => passM) (pa_cons (pv 0) pa_nil)))
 (pss_cons (ps_if (pt_not (pt_val (pe_d D_is_tree_table hc (hr.mono (by omega)) (by rfl) (fun _ => passN) (pa_cons (pv 1) pa_nil))))
  (pss_one ps_never) pss_nil)
 (pss_cons (ps_for (passes_of rfl) rfl (pi_list (pe_d D_words_of hc (hr.mono (by omega)) (by rfl) (fun _ => passN) (pa_cons (pv 0) (pa_cons pe_str pa_nil)))) (pg_name (i := 2) scwith_names.nd rfl (Or.inl rfl))
  (pss_one (ps_if (pt_cmp (pc_dnotin (hu_of hr) (pv 2) (pv 1)))
  (pss_one ps_never) pss_nil)))
 (pss_cons (ps_set (i := 3) scwith_names.nd rfl (Or.inl rfl) (pe_d D_replaced hc (hr.mono (by omega)) (by rfl) (fun _ => passN) (pa_cons (pv 0) (pa_cons (pv 1) pa_nil))))
 (pss_cons (ps_expr (pe_d D_require_tree hc (hr.mono (by omega)) (by rfl) (fun _ => passM) (pa_cons (pv 3) pa_nil)))
 (pss_one (ps_ret (pv 3)))))))), ?_⟩
  refine ⟨_, rfl, v, t, rfl, ht.same sG, hw, hh, fun H1 s1 => ?_⟩
  refine ⟨_, rfl, G, d, kvs, rfl, sG.trans s1, hGd, s1 _ _ hd, hn, tab, fun H2 s2 => ⟨_, rfl, ?_⟩⟩
  refine iteB (fun c => absurd c (by decide)) (fun _ => ?_)
  have s12 := s1.trans s2
  refine ⟨_, rfl, v, t, sName, rfl, ht.same (sG.trans s12), .inr rfl, hnd, fun H3 p s3 hp hp3 => ⟨p, rfl, ⟨_, SqL.of hp3⟩, ?_⟩⟩
  have s13 := s12.trans s3
  refine for_list (K := K) (a := p) (xs := (wo sName t).map V.str) (fun i σ H' => ∃ o2, σ = [some v, some (.ref d), o2, none] ∧ Same H3 H') ⟨none, rfl, Same.refl H3⟩ (fun _ _ H' _ ⟨_, _, s⟩ => SqL.of (s _ _ hp3)) ?_ ?_
  · rintro i y _ H4 hy ⟨o2, rfl, s4⟩
    rw [List.getElem?_map] at hy
    obtain ⟨x, hx, rfl⟩ := Option.map_eq_some_iff.mp hy
    obtain ⟨x8, xs⟩ := hnm x (List.mem_of_getElem? hx)
    obtain ⟨vv, hvv⟩ := Option.isSome_iff_exists.mp xs
    refine ⟨_, rfl, _, rfl, d, some vv, rfl, .inl ⟨kvs, Sum.inr x, .inl (s4 _ _ (s13 _ _ hd)), rfl, hvv.symm⟩, _, rfl, ?_⟩
    exact iteB (fun c => nomatch (show false = true from c)) (fun _ => ⟨some (.str x), rfl, s4⟩)
  · rintro _ H4 ⟨o2, rfl, s4⟩
    have s14 := s13.trans s4
    refine ⟨_, rfl, _, rfl, G, v, t, d, kvs, tb, 21, rfl, sG.trans s14, ht, hw, s14 _ _ hd, tab2, by omega, fun v' H5 s5 sl => ?_⟩
    obtain ⟨G2, a1, a2, a3, a4⟩ := sl
    exact ⟨_, rfl, v', rep tb t, rfl, a3.same a2, hrw, hrh, fun H6 s6 => ⟨_, rfl, q _ _ (s14.trans (s5.trans s6)) ((a3.same a2).same s6)⟩⟩
end
end KT

/-! own rules: a set made of a list of texts, and its members in order -/
namespace Gd
open PySem PySem.Spec PyProof.Rows L2
/-- what one more text makes of the members -/
def addW (l : List Str) (k : Str) : List Str := if k ∈ l then l else k :: l
/-- the members of a list of texts -/
def memW (xs : List Str) : List Str := xs.foldl addW []
theorem addW_mem {l : List Str} {k x : Str} : x ∈ addW l k ↔ x = k ∨ x ∈ l := by
  unfold addW
  by_cases c : k ∈ l
  · rw [if_pos c]
    exact ⟨.inr, fun h => h.elim (fun e => e ▸ c) id⟩
  · rw [if_neg c]
    exact List.mem_cons
theorem addW_nd {l : List Str} {k : Str} (h : l.Nodup) : (addW l k).Nodup := by
  unfold addW
  by_cases c : k ∈ l
  · rw [if_pos c]
    exact h
  · rw [if_neg c]
    exact List.nodup_cons.mpr ⟨c, h⟩
theorem addW_len (l : List Str) (k : Str) : (addW l k).length ≤ l.length + 1 := by
  unfold addW
  split
  · omega
  · exact Nat.le_refl _
theorem foldW_mem : ∀ (xs l : List Str) (x : Str), x ∈ xs.foldl addW l ↔ x ∈ l ∨ x ∈ xs
  | [], l, x => ⟨.inl, fun h => h.elim id (fun z => nomatch z)⟩
  | y :: xs, l, x => by
    rw [List.foldl_cons, foldW_mem xs (addW l y) x, addW_mem, List.mem_cons]
    constructor
    · rintro ((h | h) | h)
      · exact .inr (.inl h)
      · exact .inl h
      · exact .inr (.inr h)
    · rintro (h | h | h)
      · exact .inl (.inr h)
      · exact .inl (.inl h)
      · exact .inr h
theorem memW_mem {xs : List Str} {x : Str} : x ∈ memW xs ↔ x ∈ xs := (foldW_mem xs [] x).trans ⟨fun h => h.elim (fun z => nomatch z) id, .inr⟩
theorem foldW_nd : ∀ (xs l : List Str), l.Nodup → (xs.foldl addW l).Nodup
  | [], _, h => h
  | y :: xs, l, h => foldW_nd xs (addW l y) (addW_nd h)
theorem memW_nd (xs : List Str) : (memW xs).Nodup := foldW_nd xs [] List.nodup_nil
theorem foldW_len : ∀ (xs l : List Str), (xs.foldl addW l).length ≤ l.length + xs.length
  | [], l => Nat.le_refl _
  | y :: xs, l => by
    have h1 := foldW_len xs (addW l y)
    have h2 := addW_len l y
    rw [List.foldl_cons, List.length_cons]
    omega
theorem memW_len (xs : List Str) : (memW xs).length ≤ xs.length := by
  have h := foldW_len xs []
  rw [List.length_nil] at h
  unfold memW
  omega
theorem memW_snoc (xs : List Str) (k : Str) : memW (xs ++ [k]) = addW (memW xs) k := by
  unfold memW
  rw [List.foldl_append]
  rfl
abbrev byText (w : World) : Bool := w.params.followText "set-order"
/-- the set of texts at a, as the model lays it; it can be walked -/
def SetT (P : Program) (w : World) (h : Heap) (a : Addr) (l : List Str) : Prop :=
  ∃ D : Froz.SD, h.get? a = some (Froz.sObj "set" D) ∧ Froz.TxOk P w D l ∧ l.Nodup ∧ Ris D.2.2.place.toList ∧ (byText w = true ∨ D.2.2.led = true)
section
variable {P : Program} {w : World} {A : Around} {E : Value → Shared → Prop} {s : Shared} {a : Addr} {l : List Str}
theorem SetT.keep {h h' : Heap} (S : SetT P w h a l) (k : ∀ o, h.get? a = some o → h'.get? a = some o) : SetT P w h' a l := by
  obtain ⟨D, d1, d2⟩ := S
  exact ⟨D, k _ d1, d2⟩
theorem tail_ris (ep : Nat) (es : Array (Int × Value)) (t : SetTable) (b : Bool) (r : Ris t.place.toList) : Ris (Froz.tailTx ep es t b).2.2.place.toList ∧ (Froz.tailTx ep es t b).2.2.led = t.led := by
  unfold Froz.tailTx
  split
  · exact ⟨relayAll_ris t es _, relayAll_led t es _⟩
  · exact ⟨r, rfl⟩
theorem add_ris {D : Froz.SD} (h : Int) (v : Value) (r : Ris D.2.2.place.toList) : Ris (Froz.addTx h v D).2.2.place.toList ∧ (Froz.addTx h v D).2.2.led = D.2.2.led := by
  have r1 := layNew_ris D.2.2 D.1 h v r
  have r2 := layNew_led D.2.2 D.1 h v
  unfold Froz.addTx
  have r3 : Ris (if (layNew D.2.2 D.1 h v).2.1.plain = true then { (layNew D.2.2 D.1 h v).2.1 with plain := false } else (layNew D.2.2 D.1 h v).2.1).place.toList := by split <;> exact r1
  have r4 : (if (layNew D.2.2 D.1 h v).2.1.plain = true then { (layNew D.2.2 D.1 h v).2.1 with plain := false } else (layNew D.2.2 D.1 h v).2.1).led = D.2.2.led := by split <;> exact r2
  have q := tail_ris D.2.1 (layNew D.2.2 D.1 h v).1 _ (layNew D.2.2 D.1 h v).2.2.1 r3
  exact ⟨q.1, q.2.trans r4⟩
/-- a text that is there already -/
theorem old_x {D : Froz.SD} {k : Str} {u : Tok} {Q : Bool → Shared → Prop} (ho : s.heap.get? a = some (Froz.sObj "set" D)) (F : Froz.TxOk P w D l) (hk : k ∈ l) (hb : l.length < scanBound) (h : Q false s) :
    wpAny (model P w) A (setAddHashed a (.str k u) (hashStr w k)) Q E s := by
  have here := Froz.is_str (P := P) (w := w) k u
  have few : D.1.size < scanBound := F.sz.symm ▸ hb
  obtain ⟨e, he, heq⟩ := (F.mem k).mp hk
  have found : ∃ j, List.findIdx? (fun z => (PySem.strKind P w).is k z.2) D.1.toList = some j := by
    cases c : List.findIdx? (fun z => (PySem.strKind P w).is k z.2) D.1.toList with
    | some j => exact ⟨j, rfl⟩
    | none =>
      have no := List.findIdx?_eq_none_iff.mp c e he
      rw [heq] at no
      exact nomatch no
  obtain ⟨j, hj⟩ := found
  unfold setAddHashed
  unfold setAddHashedIn
  apply wpAny_holding
  apply wpAny_bind
  apply wpAny_setState_of ho rfl F.fit
  dsimp only
  rw [byScan_of (knd := PySem.strKind P w) rfl few F.el, if_pos rfl]
  unfold setAddByScan
  apply wpAny_bind
  apply wpAny_bind
  apply wpAny_rule
  apply wpAny_bind
  refine wpAny_setScan_of (knd := PySem.strKind P w) here ho rfl F.fit F.el ?_
  rw [hj]
  exact wpAny_pure (wpAny_pure h)
theorem setT_add {k : Str} {u : Tok} {Q : Bool → Shared → Prop} (S : SetT P w s.heap a l) (room : l.length + 1 < scanBound)
    (h : ∀ h', Heap.SameBut a s.heap h' → SetT P w h' a (addW l k) → ∀ b, Q b { s with heap := h' }) : wpAny (model P w) A (setAddHashed a (.str k u) (hashStr w k)) Q E s := by
  obtain ⟨D, d1, d2, d3, d4, d5⟩ := S
  by_cases c : k ∈ l
  · refine old_x d1 d2 c (by omega) (h s.heap (Heap.SameBut.refl a s.heap) ⟨D, d1, ?_, ?_, d4, d5⟩ false)
    · unfold addW
      rw [if_pos c]
      exact d2
    · exact addW_nd d3
  · obtain ⟨r1, r2⟩ := add_ris (hashStr w k) (.str k u) d4
    refine Froz.add_x d1 d2 c room (h _ (Heap.SameBut.update ..) ⟨_, Froz.get_upd _ d1 rfl, ?_, addW_nd d3, r1, by rw [r2]; exact d5⟩ true)
    unfold addW
    rw [if_neg c]
    exact Froz.add_ok u d2
/-- the walk that adds -/
theorem loopT {I : Addr} {fp wr : List Addr} {G : Array GenState → Array GenState → Prop} {n : Nat} {Pv : Nat → Value → Prop} {St : Nat → Shared → Prop} {R : Result → Shared → Prop} (W : WalksS P w A.in1 I fp wr G n Pv St)
    (hfp : a ∉ fp) (xs : List Str) (hn : xs.length = n) (hval : ∀ i v, Pv i v → ∃ t, v = .str (xs.getD i Str.empty) t) (hb : n + 1 < scanBound) :
    ∀ (m i : Nat) (s : Shared), i + m = n → St i s → SetT P w s.heap a (memW (xs.take i)) →
      (∀ s', Moved (a :: wr) G s s' → SetT P w s'.heap a (memW xs) → R (.ok (.ret .none)) s') → codeAny (model P w) A (.builtin "set.update.loop" ⟨[.ref a, .ref I], []⟩) R s := by
  have awr : a ∉ wr := fun z => hfp (W.sub _ z)
  have more : ∀ b ∈ wr, b ∈ a :: wr := fun _ z => .tail _ z
  intro m
  induction m with
  | zero =>
    intro i s e st S q
    have e : i = n := e
    subst e
    rw [List.take_of_length_le (Nat.le_of_eq hn)] at S
    apply codeAny_builtin PyProof.Rows.F.entry_set_update_loop
    rw [Around.under_plainId PyProof.Rows.F.plain_set_update_loop]
    show wpAny _ A.in1 (pyNext (.ref I) >>= _) _ _ s
    apply wpAny_bind
    refine W.done s _ _ st fun s' mv => ?_
    show wpAny _ A.in1 (ret Value.none) _ _ s'
    exact wpAny_pure (q s' (mv.mono more) (S.keep fun o z => mv.heap a o awr z))
  | succ m ih =>
    intro i s e st S q
    have lt : i < n := by omega
    apply codeAny_builtin PyProof.Rows.F.entry_set_update_loop
    rw [Around.under_plainId PyProof.Rows.F.plain_set_update_loop]
    show wpAny _ A.in1 (pyNext (.ref I) >>= _) _ _ s
    apply wpAny_bind
    refine W.item i s _ _ lt st fun v s' hv st' mv => ?_
    obtain ⟨t, rfl⟩ := hval i v hv
    have S' := S.keep (h' := s'.heap) fun o z => mv.heap a o awr z
    have roomy : (memW (xs.take i)).length + 1 < scanBound := by
      have h1 := memW_len (xs.take i)
      rw [List.length_take] at h1
      omega
    have grows : memW (xs.take (i + 1)) = addW (memW (xs.take i)) (xs.getD i Str.empty) := by
      have hi : i < xs.length := by omega
      rw [← memW_snoc, List.take_succ, List.getD_eq_getElem?_getD, List.getElem?_eq_getElem hi]
      rfl
    show wpAny _ A.in1 (holding [Value.str (xs.getD i Str.empty) t] (setAdd a (.str (xs.getD i Str.empty) t)) >>= _) _ _ s'
    apply wpAny_bind
    apply wpAny_holding
    unfold setAdd
    apply wpAny_holding
    apply wpAny_bind
    apply (PySem.strKind P w).pyHash (Froz.is_str (xs.getD i Str.empty) t)
    refine setT_add (s := { s' with toks := s'.toks + 1 }) S' roomy fun h' sb S2 b => ?_
    rw [← grows] at S2
    refine wpAny_pure ⟨plainId_quiet PyProof.Rows.F.plain_set_update_loop _, ih (i + 1) _ (by omega) ?_ S2 fun s2 mv2 S3 => q s2 (Moved.trans W.gtrans ((mv.mono more).then_heap (Nat.le_succ _) fun c o hc z => ?_) mv2) S3⟩
    · refine W.frame _ s' _ _ st' (Nat.le_succ _) fun c hc o z => ?_
      rw [sb.2 c (fun y => hfp (y ▸ hc))]
      exact z
    · rw [sb.2 c (fun y => hc (y ▸ .head _))]
      exact z
end
end Gd

namespace Gd
open PySem PySem.Spec PyProof.Rows L2
/-- the set before its first text -/
def bare (w : World) : Obj := { cls := .type "set", dict := none, data := .set #[] 0 (.fresh 0 0 (!byText w)) }
section
variable {P : Program} {w : World} {A : Around} {E : Value → Shared → Prop} {s : Shared}
theorem bare_T {h : Heap} {a : Addr} (e : h.get? a = some (bare w)) : SetT P w h a [] := by
  refine ⟨(#[], 0, .fresh 0 0 (!byText w)), e, Froz.TxOk.nil rfl, List.nodup_nil, List.Pairwise.nil, ?_⟩
  show byText w = true ∨ (!byText w) = true
  cases byText w
  · exact .inr rfl
  · exact .inl rfl
theorem made_T (v : Value) {Q : Value → Shared → Prop} (h : Q (.ref s.heap.objs.size) { s with heap := s.heap.push (bare w) }) :
    codeAny (model P w) A (.call (.builtin "set.__new__") ⟨[.type "set", v], []⟩) (wants Q E) s := by
  apply codeAny_of_tree
  show wpAny _ A.in1 (do checkBuiltinCall "set.__new__" ⟨[.type "set", v], []⟩; again (.builtin "set.__new__" ⟨[.type "set", v], []⟩)) _ _ s
  apply wpAny_bind
  refine wpAny_of_eq (PySem.F.newCall_set_1 v) (wpAny_pure ⟨plainId_quiet PySem.F.plain_set_new _, codeAny_builtin PySem.F.entry_set_new ?_⟩)
  rw [Around.under_plainId PySem.F.plain_set_new]
  unfold Builtin.«set.__new__»
  unfold Builtin.Frozenset.newClass
  have self := sub_set_self
  cases s with
  | mk hp g d tk os =>
    dsimp only
    wp_walk
    apply wpAny_askSetting
    apply wpAny_pure
    dsimp only
    simp only [newObj]
    apply wpAny_bind
    exact wpAny_alloc (wpAny_pure (wpAny_pure h))
/-- set(xs), xs a list of texts -/
theorem set_T {b : Addr} {items : Array Value} {xs : List Str} {Q : Value → Shared → Prop} (hd : A.handled = none) (hl : s.heap.IsList b items) (hx : StrsAre items.toList xs) (hb : xs.length + 1 < scanBound)
    (h : ∀ (h' : Heap) (tk : Nat), SetT P w h' s.heap.objs.size (memW xs) → (∀ c o, s.heap.get? c = some o → h'.get? c = some o) → Q (.ref s.heap.objs.size) { s with heap := h', toks := tk }) :
    wpAny (model P w) A (call (.type "set") [.ref b]) Q E s := by
  obtain ⟨c0, c1, c2⟩ := PySem.F.called_set.mro
  have c3 := PySem.F.called_set.made
  have c4 := PySem.F.called_set.sub
  have c5 := PySem.F.called_set.notType
  have c6 := PySem.F.called_set.canCreate
  have c7 := PySem.F.typeCall_set_1 (.ref b)
  apply wpAny_call
  apply codeAny_of_tree
  show wpAny _ _ (callAny (.type "set") _) _ _ _
  refine wpAny_pure ⟨Code.quiet_builtin _ (by decide +kernel), ?_⟩
  apply codeAny_builtin PySem.F.entry_type_call
  rw [Around.under_plain (weight_type_call_type "set" [.ref b] []) rfl]
  repeat (any_goals (first | assumption | wp_step))
  refine codeAny_mono (made_T (.ref b) (E := E) (Q := fun v s1 => v = .ref s.heap.objs.size ∧ s1 = { s with heap := s.heap.push (bare w) }) ⟨rfl, rfl⟩) fun r s1 hr => ?_
  rcases r with e | fl
  · exact hr
  rcases fl with _ | v | _ | _
  case ret =>
    obtain ⟨rfl, rfl⟩ := hr
    have born : (s.heap.push (bare w)).get? s.heap.objs.size = some (bare w) := Heap.get?_push_size _ rfl
    have kind : Shared.TypeIs { s with heap := s.heap.push (bare w) } (.ref s.heap.objs.size) "set" := ⟨_, born, rfl⟩
    have c8 := PySem.F.called_set.init.lookup
    have c9 := PySem.F.called_set.init.bind (.ref s.heap.objs.size)
    repeat (any_goals (first | assumption | wp_step))
    refine codeAny_mono (codeAny_call_builtin (R := wants (fun r s2 => r = .none ∧ ∃ h' tk, s2 = { s with heap := h', toks := tk } ∧ SetT P w h' s.heap.objs.size (memW xs) ∧ ∀ c o, s.heap.get? c = some o → h'.get? c = some o) E)
      PySem.F.called_set.init.plain PySem.F.entry_set_init (check_set_init_1 kind ?_)) fun r2 s2 hr2 => ?_
    · obtain ⟨⟨k0, k1, k2, k3⟩, hol, k4, nl, k5⟩ := hl
      simp only at k4 k5
      subst k4 k5
      have e1 := PySem.F.sub_list_set
      have e2 := PySem.F.sub_list_frozenset
      have e3 : (Value.type "list" == Value.type "dict") = false := by decide
      have there : (s.heap.push (bare w)).get? b = some { cls := .type "list", dict := k1, data := .seq items nl, slots := k3 } := Heap.get?_push_of_some _ hol
      have lst : (s.heap.push (bare w)).IsList b items := ⟨_, there, rfl, nl, rfl⟩
      unfold Builtin.«set.__init__» noKeywords Builtin.Frozenset.updateFrom
      generalize hold : pyIter = held
      wp_walk
      subst hold
      apply wpAny_pyIter_list lst
      apply wpAny_bind
      apply wpAny_runValue
      have bs : b < s.heap.objs.size := Heap.lt_size hol
      have free : A.in1.in1.in1.handled = none := by simp [hd]
      have size1 : (s.heap.push (bare w)).objs.size = s.heap.objs.size + 1 := Heap.size_push _ _
      have bI : b ≠ (s.heap.push (bare w)).objs.size := by rw [size1]; exact Nat.ne_of_lt (Nat.lt_succ_of_lt bs)
      have alone : s.heap.objs.size ∉ [(s.heap.push (bare w)).objs.size, b] := by
        rw [size1]
        intro z
        rcases List.mem_cons.mp z with y | y
        · exact Nat.ne_of_lt (Nat.lt_succ_self _) y
        · exact Nat.ne_of_gt bs (List.mem_singleton.mp y)
      have len : xs.length = items.size := by rw [← StrsAre.len_eq hx, Array.length_toList]
      refine loopT ((Walks.list free _ b bI items).toS) alone xs len (fun i v hv => SS.strs_at hx i v (by rw [Array.getElem?_toList]; exact hv)) (by omega) items.size 0 _ (by omega) ⟨⟨_, Heap.get?_push_size _ rfl, rfl, rfl⟩, lst.push _⟩ (bare_T (Heap.get?_push_of_some _ born)) fun s' mv S => ?_
      have m1 := mv.gens
      have m2 := mv.drawn
      have m3 := mv.os
      have m4 := mv.heap
      cases s' with
      | mk h' g' d' tk' os' =>
        have m1 : g' = s.gens := m1
        have m2 : d' = s.drawn := m2
        have m3 : os' = s.os := m3
        subst m1 m2 m3
        apply wpAny_pure
        show wpAny _ _ (ret Value.none) _ _ _
        refine wpAny_pure ⟨rfl, h', tk', rfl, S, fun c o z => ?_⟩
        have cs : c < s.heap.objs.size := Heap.lt_size z
        refine m4 c o (fun y => ?_) (Heap.get?_push_of_some _ (Heap.get?_push_of_some _ z))
        rcases List.mem_cons.mp y with y | y
        · exact Nat.ne_of_lt cs y
        · have y := List.mem_singleton.mp y
          rw [size1] at y
          exact Nat.ne_of_lt (Nat.lt_succ_of_lt cs) y
    · rcases r2 with e | fl
      · exact hr2
      rcases fl with _ | v | _ | _
      case ret =>
        obtain ⟨rfl, h', tk, rfl, S, k⟩ := hr2
        repeat (any_goals (first | assumption | wp_step))
        exact h h' tk S k
      all_goals exact hr2.elim
  all_goals exact hr.elim
end
end Gd

namespace Gd
open PySem PySem.Spec PyProof.Rows L2
/-- a list of texts that strictly rises -/
def upW (ys : List Str) : Prop := sortedS ys = true ∧ ys.Nodup
section
variable {P : Program} {w : World} {A : Around} {E : Value → Shared → Prop} {s : Shared} {a : Addr} {l : List Str}
theorem txt_entry {D : Froz.SD} (F : Froz.TxOk P w D l) {e : Int × Value} (he : e ∈ D.1.toList) : ∃ x t, e.2 = .str x t ∧ x ∈ l := by
  obtain ⟨⟨x, h1, _⟩, _⟩ := F.el e he
  obtain ⟨t, ht⟩ := Value.isStrOf_shape (x := x) (v := e.2) h1
  exact ⟨x, t, ht, (F.mem x).mpr ⟨e, he, h1⟩⟩
theorem nodup_of_len : ∀ {l m : List Str}, l.Nodup → (∀ x ∈ l, x ∈ m) → m.length ≤ l.length → l.Perm m
  | [], m, _, _, h => by
    have : m = [] := List.eq_nil_of_length_eq_zero (Nat.le_zero.mp h)
    rw [this]
  | x :: l, m, nd, sub, h => by
    obtain ⟨n1, n2⟩ := List.nodup_cons.mp nd
    have hx := sub x (.head _)
    have p := List.perm_cons_erase hx
    refine List.Perm.trans (.cons x (nodup_of_len (m := m.erase x) n2 (fun y hy => ?_) ?_)) p.symm
    · have ne : y ≠ x := fun z => n1 (by rw [← z]; exact hy)
      exact (List.mem_erase_of_ne ne).mpr (sub y (.tail _ hy))
    · have := p.length_eq
      rw [List.length_cons] at this h
      omega
/-- the texts of the entries are the members -/
theorem txt_perm {D : Froz.SD} (F : Froz.TxOk P w D l) (nd : l.Nodup) : l.Perm ((D.1.toList.map (·.2)).map strOf) := by
  refine nodup_of_len nd (fun x hx => ?_) ?_
  · obtain ⟨e, he, q⟩ := (F.mem x).mp hx
    obtain ⟨t, ht⟩ := Value.isStrOf_shape (x := x) (v := e.2) q
    refine List.mem_map.mpr ⟨e.2, List.mem_map.mpr ⟨e, he, rfl⟩, ?_⟩
    rw [ht]
    rfl
  · rw [List.length_map, List.length_map, Array.length_toList, F.sz]
    exact Nat.le_refl _
theorem sorted_T {Q : Value → Shared → Prop} (S : SetT P w s.heap a l) (hd : A.handled = none) (h64 : l.length < 64)
    (h : ∀ s' p (out : Array Value) (c : Nat) (ys : List Str), (∀ b o, s.heap.get? b = some o → s'.heap.get? b = some o) → s'.gens = s.gens → s'.os = s.os → s.heap.objs.size ≤ p →
      s'.heap.get? p = some (seqObj "list" out c) → StrsAre out.toList ys → ys.Perm l → sortedS ys = true → Q (.ref p) s') :
    wpAny (model P w) A (call (.builtin "sorted") [.ref a]) Q E s := by
  obtain ⟨⟨es, ep, t⟩, d1, F, nd, d4, d5⟩ := S
  have fit : t.fits es.size = true := F.fit
  have size : es.size = l.length := F.sz
  apply Calls.call_function_entry kind_sorted plain_sorted entry_sorted (args_sorted1 _)
  unfold Builtin.«sorted»
  apply wpAny_bind (m := checkCount "sorted" 1 1 _)
  apply wpAny_pure
  apply wpAny_bind
  refine collect_set (A := A.in1) hd ⟨_, d1, rfl, rfl⟩ fit (by show es.size < scanBound; unfold scanBound; omega) d4 d5 fun s1 vs k1 z1 g1 o1 pm => ?_
  have vlen : vs.length = l.length := by rw [pm.length_eq, List.length_map, Array.length_toList, size]
  have txts : StrsAre vs (vs.map strOf) := strsAre_map vs fun v hv => by
    obtain ⟨e, he, q⟩ := List.mem_map.mp (pm.mem_iff.mp hv)
    obtain ⟨x, u, hu, _⟩ := txt_entry F he
    exact ⟨x, u, by rw [← q]; exact hu⟩
  have perm : (vs.map strOf).Perm l := (pm.map strOf).trans (txt_perm F nd).symm
  apply wpAny_bind
  refine wpAny_newList ?_ (by rw [vlen, sizeLine_eq]; omega)
  have born : (s1.heap.push (seqObj "list" vs.toArray 0)).get? s1.heap.objs.size = some (seqObj "list" vs.toArray 0) := Heap.get?_push_size _ rfl
  apply wpAny_bind
  apply wpAny_holding
  refine wpAny_call_entry slot_list_sort ⟨_, born, rfl⟩ entry_list_sort (list_sort_treeK strKind_oneLt born txts.keysOf (fun v1 v2 r e => keyKind_strs (by rw [← e]; exact txts)) (by rw [vlen]; exact h64) fun st a1 a2 => ?_) (args_list_sort _)
  obtain ⟨ys, b1, b2, b3⟩ := sorted_out_str txts a1 a2
  obtain ⟨c, hc⟩ := sortedHeap_at (vs := vs) (out := (arrOf st).map (·.2)) born
  refine ⟨_, rfl, wpAny_pure ⟨_, rfl, h _ s1.heap.objs.size _ c ys (fun b u e => ?_) g1 o1 z1 hc b1 (b2.trans perm) b3⟩⟩
  have old := k1 b u e
  have lt := Heap.lt_size old
  show (sortedHeap (s1.heap.push (seqObj "list" vs.toArray 0)) s1.heap.objs.size vs _).get? b = some u
  rw [sortedHeap_old (Nat.ne_of_lt lt) (by rw [size_push']; exact Nat.lt_succ_of_lt lt)]
  exact Heap.get?_push_of_some _ old
end
/-! ### the rules -/
/-- a set of texts in the heap -/
def SetW (P : Program) (w : World) (a : Addr) (l : List Str) : HO := .ext fun h => SetT P w h a l
section
variable {X : Cx}
theorem setW_ok {P : Program} {w : World} {H : Hp} {h : Heap} {a : Addr} {l : List Str} (S : SetT P w h a l) : ObjOk P w H h a (SetW P w a l) := by
  obtain ⟨D, d1, _⟩ := id S
  exact ⟨S, ⟨_, d1⟩, fun _ _ z k => SetT.keep z k⟩
/-- set(a list of texts) -/
def rSetW (P : Program) (w : World) (K : PySem.W.Frag) : List V → Hp → VK → Prop := fun vs H Q => ∃ (b : Addr) (xs : List Str), vs = [V.ref b] ∧ SqL K H b (xs.map V.str) ∧ xs.length + 1 < 4096 ∧ ∀ p, H p = none → Q (.ref p) (upd H p (SetW P w p (memW xs)))
theorem cr_setW (hc : X.calm = true) : CallR X (.type "set") (rSetW X.prog X.w X.K) := by
  intro pins s σ H vs us Q I r h
  obtain ⟨b, xs, rfl, hs, hl, q⟩ := h
  obtain ⟨its, rv, p, _⟩ := I.list hs
  rw [Vals.ref1 r]
  refine set_T (I.ok.hd hc) p.isList rv.strs (by unfold scanBound; omega) fun h' tk S k => ?_
  exact ⟨.ref s.heap.objs.size, upd H s.heap.objs.size (SetW X.prog X.w s.heap.objs.size (memW xs)), I.laid (t' := tk) (fun c o e => k c o e) (Nat.le_refl _) (setW_ok S), rfl, q _ (I.hok.fresh (Nat.le_refl _))⟩
/-- sorted(a set of texts) -/
def rSortW (P : Program) (w : World) : List V → Hp → VK → Prop := fun vs H Q => ∃ (a : Addr) (l : List Str), vs = [V.ref a] ∧ H a = some (SetW P w a l) ∧ l.length < 64 ∧
  ∀ (ys : List Str) (p : Addr), ys.Perm l → sortedS ys = true → H p = none → Q (.ref p) (upd H p (.lst (ys.map V.str)))
theorem cr_sortW (hc : X.calm = true) : CallR X (.builtin "sorted") (rSortW X.prog X.w) := by
  intro pins s σ H vs us Q I r h
  obtain ⟨a, l, rfl, ha, h64, q⟩ := h
  have S : SetT X.prog X.w s.heap a l := (I.hok a _ ha).1
  rw [Vals.ref1 r]
  refine sorted_T S (I.ok.hd hc) h64 fun s' p out c ys k g o hp hg hy hperm hsort => ?_
  have few : (ys.map V.str).length ≤ sizeLine := by rw [List.length_map, hperm.length_eq, sizeLine_eq]; omega
  have hn : H p = none := I.hok.fresh hp
  exact ⟨.ref p, upd H p (.lst (ys.map V.str)), I.call' (ch := []) o (Un.laid k hp hn) (I.hok.laid k hp ⟨few, out.toList, c, vals_of_strs hy, hg⟩) (by rw [g]; exact I.bare) (fun _ z => nomatch z), rfl, q ys p hperm hsort hn⟩
end
end Gd

namespace KT
open PySem L2 Gd
open PyProof.Rows (sortedS)
theorem none_of {H H' : Hp} {a : Addr} (s : Same H H') (h : H' a = none) : H a = none := by
  cases e : H a with
  | none => rfl
  | some o => rw [s _ _ e] at h; exact nomatch h
mutual
theorem wo_len (kd : Str) : ∀ t : Tr, (wo kd t).length ≤ nd t
  | .none => Nat.zero_le _
  | .empty => Nat.zero_le _
  | .letter c => by show (if kd = sLetter then [(⟨#[c]⟩ : Str)] else []).length ≤ 1; split <;> simp
  | .name x => by show (if kd = sName then [x] else []).length ≤ 1; split <;> simp
  | .sgn _ t => Nat.le_succ_of_le (wo_len kd t)
  | .seq l => Nat.le_succ_of_le (wos_len kd l)
  | .cho l => Nat.le_succ_of_le (wos_len kd l)
theorem wos_len (kd : Str) : ∀ l : List Tr, (wos kd l).length ≤ nds l
  | [] => Nat.zero_le _
  | t :: l => by
    have h1 := wo_len kd t
    have h2 := wos_len kd l
    show (wo kd t ++ wos kd l).length ≤ nd t + nds l
    rw [List.length_append]
    omega
end
def spLetters (kd : Str) : Sp := fun vs H Q _ => ∃ (v : V) (t : Tr), vs = [v] ∧ TrAt H v t ∧ t.Wf ∧ t.height ≤ 21 ∧ nd t ≤ 60 ∧ ∀ (ys : List Str) (p : Addr) H', Same H H' → H p = none → ys.Perm (memW (wo kd t)) → sortedS ys = true → H' p = some (.lst (ys.map V.str)) → Q (.ref p) H'
section
variable {P : Program} {w : World} {K : PySem.W.Frag} {mg : Str → Option Value} {base : Heap} {aS aL C_L f_L C_U f_U : Addr} {es : Array DictEntry} {n : Nat}
theorem letters_end {w : World} {P : Program} {K : PySem.W.Frag} {H H2 : Hp} {t : Tr} {kd : Str} {p : Addr} {Q : VK} (s2 : Same H H2) (hp2 : H2 p = some (.lst ((wo kd t).map V.str))) (hn : nd t ≤ 60)
    (q : ∀ (ys : List Str) (p : Addr) H', Same H H' → H p = none → ys.Perm (memW (wo kd t)) → sortedS ys = true → H' p = some (.lst (ys.map V.str)) → Q (.ref p) H') :
    rSetW P w K [.ref p] H2 (fun x H3 => rSortW P w [x] H3 Q) := by
  have h1 := wo_len kd t
  have h2 := memW_len (wo kd t)
  refine ⟨p, wo kd t, rfl, SqL.of hp2, by omega, fun a ha => ⟨a, memW (wo kd t), rfl, upd_same, by omega, fun ys b hy hs hb => ?_⟩⟩
  have ha0 : H a = none := none_of s2 ha
  refine q ys b _ (fun c o e => ?_) ?_ hy hs upd_same
  · have e2 := s2 _ _ e
    have e3 : upd H2 a (SetW P w a (memW (wo kd t))) c = some o := by rw [upd_ne (ne_of_none e ha0)]; exact e2
    rw [upd_ne (ne_of_none e3 hb)]
    exact e3
  · refine none_of s2 ?_
    cases e : H2 b with
    | none => rfl
    | some o =>
      by_cases z : b = a
      · rw [z, upd_same] at hb
        exact nomatch hb
      · rw [upd_ne z, e] at hb
        exact nomatch hb
abbrev sletters_of : Stmt := top 38
theorem scletters_of : FnScope ["tree"] ["tree"] (defScope sletters_of) := ⟨rfl, rfl, rfl, by decide +kernel, rfl, by decide +kernel, by decide +kernel⟩
theorem ok_letters {f f1 f2 : Addr} {fd fd1 fd2 : FuncData} (F : Fun K "letters_of" "letters_of" sletters_of f fd) (T : Txt w K mg base aS aL es n) (zs : mg "set" = none) (zt : mg "sorted" = none)
    (D_require_tree : Df P w K mg base (L2.CX P w) 88 "require_tree" f1 fd1 ["value"] spRequire) (D_words_of : Df P w K mg base CX0 1 "words_of" f2 fd2 ["tree", "kind"] spWords) : FnG P w K mg base (L2.CX P w) 89 f fd ["tree"] (spLetters sLetter) := by
  refine okG F scletters_of (fun vs H Q E h => ?_) (fun cdv A outer s H vs Q E hc hr h => ?_)
  · obtain ⟨v, t, rfl, _⟩ := h
    rfl
  obtain ⟨v, t, rfl, ht, hw, hh, hn, q⟩ := h
  refine ⟨_, (pss_cons (ps_expr (pe_d D_require_tree hc (hr.mono (by omega)) (by rfl) (fun _ => passM) (pa_cons (pv 0) pa_nil)))
 (pss_one (ps_ret (pe_callB (cr_sortW rfl) (by rfl) zt (by decide +kernel) (pa_cons (pe_callTy (cr_setW rfl) (by rfl) zs (by decide +kernel) (pa_cons (pe_d D_words_of hc (hr.mono (by omega)) (by rfl) (fun _ => passN) (pa_cons (pv 0) (pa_cons pe_str pa_nil))) pa_nil)) pa_nil))))), ?_⟩
  refine ⟨_, rfl, v, t, rfl, ht, hw, hh, fun H1 s1 => ?_⟩
  refine ⟨_, rfl, v, t, sLetter, rfl, ht.same s1, .inl rfl, by omega, fun H2 p s2 hp hp2 => letters_end (s1.trans s2) hp2 hn q⟩
abbrev snames_of : Stmt := top 39
theorem scnames_of : FnScope ["tree"] ["tree"] (defScope snames_of) := ⟨rfl, rfl, rfl, by decide +kernel, rfl, by decide +kernel, by decide +kernel⟩
theorem ok_names {f f1 f2 : Addr} {fd fd1 fd2 : FuncData} (F : Fun K "names_of" "names_of" snames_of f fd) (T : Txt w K mg base aS aL es n) (zs : mg "set" = none) (zt : mg "sorted" = none)
    (D_require_tree : Df P w K mg base (L2.CX P w) 88 "require_tree" f1 fd1 ["value"] spRequire) (D_words_of : Df P w K mg base CX0 1 "words_of" f2 fd2 ["tree", "kind"] spWords) : FnG P w K mg base (L2.CX P w) 89 f fd ["tree"] (spLetters sName) := by
  refine okG F scnames_of (fun vs H Q E h => ?_) (fun cdv A outer s H vs Q E hc hr h => ?_)
  · obtain ⟨v, t, rfl, _⟩ := h
    rfl
  obtain ⟨v, t, rfl, ht, hw, hh, hn, q⟩ := h
  refine ⟨_, (pss_cons (ps_expr (pe_d D_require_tree hc (hr.mono (by omega)) (by rfl) (fun _ => passM) (pa_cons (pv 0) pa_nil)))
 (pss_one (ps_ret (pe_callB (cr_sortW rfl) (by rfl) zt (by decide +kernel) (pa_cons (pe_callTy (cr_setW rfl) (by rfl) zs (by decide +kernel) (pa_cons (pe_d D_words_of hc (hr.mono (by omega)) (by rfl) (fun _ => passN) (pa_cons (pv 0) (pa_cons pe_str pa_nil))) pa_nil)) pa_nil))))), ?_⟩
  refine ⟨_, rfl, v, t, rfl, ht, hw, hh, fun H1 s1 => ?_⟩
  refine ⟨_, rfl, v, t, sName, rfl, ht.same s1, .inr rfl, by omega, fun H2 p s2 hp hp2 => letters_end (s1.trans s2) hp2 hn q⟩
end
end KT

namespace KT
open PySem L2 Gd
/-- the pool at p, its counter at most m -/
def BoxC (H : Hp) (p : Addr) (m : Nat) : Prop := ∃ a b c : Int, H p = some (.lst [.int a, .int b, .int c]) ∧ 0 ≤ b ∧ b < 2147483647 ∧ 0 ≤ c ∧ c ≤ m
/-- it has turned, nothing else -/
def TurnC (H H' : Hp) (p : Addr) (m : Nat) : Prop := BoxC H' p m ∧ ∀ q, q ≠ p → H' q = H q
def spBoxC : Sp := fun vs H Q _ => ∃ z : Int, vs = [.int z] ∧ ∀ (p : Addr) (o : HO), H p = none → BoxC (upd H p o) p 0 → Q (.ref p) (upd H p o)
def spTakeC : Sp := fun vs H Q _ => ∃ (p : Addr) (n : Int) (m : Nat), vs = [.ref p, .int n] ∧ BoxC H p m ∧ m < 100000 ∧ 0 < n ∧ n < 1000000 ∧ ∀ (d : Int) (H' : Hp), 0 ≤ d → d < n → TurnC H H' p (m + 1) → Q (.int d) H'
section
variable {P : Program} {w : World} {K : PySem.W.Frag} {mg : Str → Option Value} {base : Heap} {aS aL C_L f_L C_U f_U : Addr} {es : Array DictEntry} {n : Nat}
abbrev s_law_cell : Stmt := top 44
theorem sc_law_cell : FnScope ["_law_script", "_law_k"] ["_law_script", "_law_k"] (defScope s_law_cell) := ⟨rfl, rfl, rfl, by decide +kernel, rfl, by decide +kernel, by decide +kernel⟩
theorem ok_cell {f : Addr} {fd : FuncData} (F : Fun K "_law_cell" "_law_cell" s_law_cell f fd) (T : Txt w K mg base aS aL es n) : FnG P w K mg base CX0 1 f fd ["_law_script", "_law_k"] (spScr K) := by
  refine okG F sc_law_cell (fun vs H Q E h => ?_) (fun cdv A outer s H vs Q E hc hr h => ?_)
  · obtain ⟨p, ns, k, rfl, _⟩ := h
    rfl
  obtain ⟨p, ns, k, rfl, hs, k0, k1, q⟩ := h
  refine ⟨_, (pss_cons (ps_if (pt_cmpR op_lt (pv 1) (pe_callB call_len_seq (by rfl) T.z_len (by decide +kernel) (pa_cons (pv 0) pa_nil)) (nomark _))
  (pss_one (ps_ret (pe_ix ix_list (pv 0) (pv 1) (fun _ _ => rfl)))) pss_nil)
 (pss_one (ps_ret (pe_op op_add (pe_op op_mul pe_int (pv 1)) pe_int)))), ?_⟩
  refine ⟨_, rfl, _, rfl, p, _, rfl, .inl hs, _, _, rfl, rfl, _, rfl, ?_⟩
  refine ite2 (fun c => ?_) (fun c => ?_)
  · have c1 := of_decide_eq_true c
    rw [List.length_map] at c1
    obtain ⟨z, hz⟩ := at_script k0 c1
    exact ⟨_, rfl, _, rfl, p, _, _, _, rfl, rfl, hs, hz, q z⟩
  · exact ⟨_, rfl, _, _, rfl, rfl, .inl ⟨by decide, by decide⟩, _, _, rfl, rfl, q _⟩
abbrev s_law_box : Stmt := top 45
theorem sc_law_box : FnScope ["_law_cell_here"] ["_law_cell_here"] (defScope s_law_box) := ⟨rfl, rfl, rfl, by decide +kernel, rfl, by decide +kernel, by decide +kernel⟩
theorem ok_box {f : Addr} {fd : FuncData} (F : Fun K "_law_box" "_law_box" s_law_box f fd) (zm : mg "max" = none) : FnG P w K mg base CX0 1 f fd ["_law_cell_here"] spBoxC := by
  refine okG F sc_law_box (fun vs H Q E h => ?_) (fun cdv A outer s H vs Q E hc hr h => ?_)
  · obtain ⟨z, rfl, _⟩ := h
    rfl
  obtain ⟨z, rfl, q⟩ := h
  refine ⟨_, (pss_one (ps_ret (pe_lst (pa_cons (pe_callB (call_max2 rfl) (by rfl) zm (by decide +kernel) (pa_cons pe_int (pa_cons (pe_op op_sub (pv 0) (pe_op op_pow pe_int pe_int)) pa_nil))) (pa_cons (pe_op op_mod (pv 0) pe_int) (pa_cons pe_int pa_nil)))))), ?_⟩
  refine ⟨_, rfl, _, _, rfl, rfl, ⟨by decide, by decide, by decide⟩, _, _, rfl, rfl, _, _, rfl, _, rfl, _, _, rfl, rfl, (by show (0 : Int) < 2147483629; decide), ?_⟩
  refine ⟨(by show 3 ≤ sizeLine; decide), fun p hp => q p _ hp ⟨_, _, _, upd_same, ?_⟩⟩
  have := mod_pos (i := z) (j := 2147483629) (by decide)
  omega
abbrev s_law_take : Stmt := top 46
theorem sc_law_take : FnScope ["_law_box_here", "_law_many", "_law_digit", "_law_one", "_law_two"] ["_law_box_here", "_law_many"] (defScope s_law_take) := ⟨rfl, rfl, rfl, by decide +kernel, rfl, by decide +kernel, by decide +kernel⟩
theorem ok_take {f : Addr} {fd : FuncData} (F : Fun K "_law_take" "_law_take" s_law_take f fd) : FnG P w K mg base CX0 1 f fd ["_law_box_here", "_law_many"] spTakeC := by
  refine okG F sc_law_take (fun vs H Q E h => ?_) (fun cdv A outer s H vs Q E hc hr h => ?_)
  · obtain ⟨p, n, m, rfl, _⟩ := h
    rfl
  obtain ⟨p, n, m, rfl, ⟨a, b, c, hp, b0, b1, c0, c1⟩, hm, n0, n1, k⟩ := h
  refine ⟨_, (pss_cons (ps_if (pt_cmpR op_gt (pe_ix ix_list (pv 0) pe_int (fun _ _ => rfl)) pe_int (nomark _))
  (pss_cons (ps_set (i := 2) sc_law_take.nd rfl (Or.inl rfl) (pe_op op_mod (pe_ix ix_list (pv 0) pe_int (fun _ _ => rfl)) (pv 1)))
 (pss_cons (ps_asg (pe_op op_fdivW (pe_ix ix_list (pv 0) pe_int (fun _ _ => rfl)) (pv 1)) (pg_sub (pv 0) pe_int set_list))
 (pss_one (ps_ret (pv 2))))) pss_nil)
 (pss_cons (ps_asg (pe_op op_add (pe_ix ix_list (pv 0) pe_int (fun _ _ => rfl)) pe_int) (pg_sub (pv 0) pe_int set_list))
 (pss_cons (ps_set (i := 3) sc_law_take.nd rfl (Or.inl rfl) (pe_op op_mod (pe_op op_pow (pe_op op_add (pe_op op_add (pe_ix ix_list (pv 0) pe_int (fun _ _ => rfl)) (pe_op op_mul pe_int (pe_ix ix_list (pv 0) pe_int (fun _ _ => rfl)))) pe_int) pe_int) pe_int))
 (pss_cons (ps_set (i := 4) sc_law_take.nd rfl (Or.inl rfl) (pe_op op_mod (pe_op op_pow (pe_op op_add (pe_op op_add (pe_op op_fdivW (pv 3) pe_int) (pe_op op_mul pe_int (pe_ix ix_list (pv 0) pe_int (fun _ _ => rfl)))) pe_int) pe_int) pe_int))
 (pss_one (ps_ret (pe_op op_mod (pe_op op_add (pe_op op_fdivW (pv 3) pe_int) (pe_op op_mul pe_int (pe_op op_fdivW (pv 4) pe_int))) (pv 1)))))))), ?_⟩
  refine ⟨_, rfl, p, _, _, _, rfl, rfl, SqL.of hp, atI_nat (j := 0) rfl, _, _, rfl, rfl, _, rfl, ?_⟩
  refine ite2 (fun ha => ?_) (fun ha => ?_)
  · refine ⟨_, rfl, p, _, _, _, rfl, rfl, SqL.of hp, atI_nat (j := 0) rfl, _, rfl, _, _, rfl, rfl, n0, ?_⟩
    refine ⟨_, rfl, p, _, _, _, rfl, rfl, SqL.of hp, atI_nat (j := 0) rfl, _, rfl, _, _, rfl, rfl, wide_div (b := 20) n0 (by omega) (by decide) (by decide), ?_⟩
    refine ⟨_, rfl, p, _, _, 0, rfl, rfl, hp, rfl, _, rfl, ?_⟩
    exact k _ _ (mod_pos n0).1 (mod_pos n0).2 ⟨⟨_, _, _, upd_same, b0, b1, c0, by omega⟩, fun q hq => upd_ne hq⟩
  · refine ⟨_, rfl, p, _, _, _, rfl, rfl, SqL.of hp, atI_nat (j := 2) rfl, _, _, rfl, rfl, ?_⟩
    refine ⟨_, rfl, p, _, _, 2, rfl, rfl, hp, rfl, ?_⟩
    have h1 : ∀ {z : V}, (upd H p (.lst ([V.int a, .int b, .int c].set 2 z))) p = some (.lst [.int a, .int b, z]) := upd_same
    refine ⟨_, rfl, p, _, _, _, rfl, rfl, SqL.of h1, atI_nat (j := 1) rfl, _, rfl, p, _, _, _, rfl, rfl, SqL.of h1, atI_nat (j := 2) rfl, _, _, rfl, rfl, .inl ⟨by decide, by decide⟩, _, _, rfl, rfl, _, _, rfl, rfl, ?_⟩
    refine ⟨_, _, rfl, rfl, ⟨by decide, by decide, ?_⟩, _, _, rfl, rfl, (by show (0 : Int) < 2147483647; decide), ?_⟩
    · show (b + 7919 * (c + 1) + 29).natAbs < 2 ^ 64
      omega
    have m0 := mod_pos (i := (b + 7919 * (c + 1) + 29) ^ (5 : Int).toNat) (j := 2147483647) (by decide)
    refine ⟨_, rfl, _, _, rfl, rfl, wide_div (b := 5) (by decide) (by decide) (by decide) (by decide), ?_⟩
    generalize (b + 7919 * (c + 1) + 29) ^ (5 : Int).toNat % 2147483647 = one at m0
    refine ⟨_, rfl, p, _, _, _, rfl, rfl, SqL.of h1, atI_nat (j := 2) rfl, _, _, rfl, rfl, .inl ⟨by decide, by decide⟩, _, _, rfl, rfl, _, _, rfl, rfl, ?_⟩
    refine ⟨_, _, rfl, rfl, ⟨by decide, by decide, ?_⟩, _, _, rfl, rfl, (by show (0 : Int) < 2147483629; decide), ?_⟩
    · show (one / 8 + 104729 * (c + 1) + 11).natAbs < 2 ^ 64
      have := Int.ediv_nonneg m0.1 (show (0 : Int) ≤ 8 by decide)
      have := Int.ediv_le_self 8 m0.1
      omega
    refine ⟨_, rfl, _, _, rfl, rfl, wide_div (b := 5) (by decide) (by decide) (by decide) (by decide), _, rfl, _, _, rfl, rfl, wide_div (b := 5) (by decide) (by decide) (by decide) (by decide), ?_⟩
    refine ⟨_, _, rfl, rfl, .inl ⟨by decide, by decide⟩, _, _, rfl, rfl, _, rfl, _, _, rfl, rfl, n0, ?_⟩
    exact k _ _ (mod_pos n0).1 (mod_pos n0).2 ⟨⟨_, _, _, upd_same, b0, b1, by omega, by omega⟩, fun q hq => upd_ne hq⟩
end
end KT

namespace Gd
open PySem L2
theorem sIx_nat {n d i : Nat} (h : i ≤ n) : HT.sIx n d (some (i : Int)) = i := by
  rw [HT.sIx_nat, Nat.min_eq_left h]
theorem cut_to {xs : List V} {i : Nat} (h : i ≤ xs.length) : cutV xs none (some (i : Int)) = xs.take i := by
  unfold cutV
  rw [sIx_nat h]
  show (xs.drop 0).take (i - 0) = _
  rw [List.drop_zero, Nat.sub_zero]
theorem cut_from {xs : List V} {i : Nat} (h : i ≤ xs.length) : cutV xs (some (i : Int)) none = xs.drop i := by
  unfold cutV
  rw [sIx_nat h]
  show (xs.drop i).take (xs.length - i) = _
  exact List.take_of_length_le (by rw [List.length_drop]; omega)
theorem cut_mid {xs : List V} {i k : Nat} (h : i + k ≤ xs.length) : cutV xs (some (i : Int)) (some ((i + k : Nat) : Int)) = (xs.drop i).take k := by
  unfold cutV
  rw [sIx_nat h, sIx_nat (d := 0) (show i ≤ xs.length by omega), Nat.add_sub_cancel_left]
theorem ixN_nat {n i : Nat} (h : i < n) : ixN n (i : Int) = some i := by
  unfold ixN
  rw [if_pos (by omega), if_pos (by omega)]
  rfl
end Gd

namespace KT
open PySem L2 Gd
mutual
/-- letters a and b, the name x -/
def ab : Tr → Prop
  | .letter c => c = 97 ∨ c = 98
  | .name x => x = "x"
  | .sgn _ t => ab t
  | .seq l => abs l
  | .cho l => abs l
  | _ => True
def abs : List Tr → Prop
  | [] => True
  | t :: l => ab t ∧ abs l
end
/-- a tree as the law draws it -/
def Gt (h : Nat) (t : Tr) : Prop := t.Wf ∧ ab t ∧ t.height ≤ h
def Gts (h : Nat) (ts : List Tr) : Prop := ∀ t ∈ ts, Gt h t
/-- the heap while the list of trees at S grows -/
def TI (H0 H' : Hp) (p S : Addr) (m : Nat) (ts : List Tr) : Prop :=
  ∃ G vs, H' S = some (.lst vs) ∧ TrsAt G vs ts ∧ Same G H' ∧ G S = none ∧ G p = none ∧ H0 S = none ∧ S ≠ p ∧ BoxC H' p m ∧ ∀ c o, c ≠ p → H0 c = some o → H' c = some o
theorem TI.turn {H0 H1 H2 : Hp} {p S : Addr} {m k : Nat} {ts : List Tr} (h : TI H0 H1 p S m ts) (t : TurnC H1 H2 p k) : TI H0 H2 p S k ts := by
  obtain ⟨G, vs, a1, a2, a3, a4, a5, a6, a7, a8, a9⟩ := h
  refine ⟨G, vs, by rw [t.2 S a7]; exact a1, a2, fun c o e => ?_, a4, a5, a6, a7, t.1, fun c o n e => by rw [t.2 c n]; exact a9 c o n e⟩
  rw [t.2 c (fun z => by rw [z, a5] at e; exact nomatch e)]
  exact a3 c o e
theorem TI.new {H0 H1 : Hp} {p S q : Addr} {m : Nat} {ts : List Tr} {o : HO} (h : TI H0 H1 p S m ts) (hq : H1 q = none) : TI H0 (upd H1 q o) p S m ts := by
  obtain ⟨G, vs, a1, a2, a3, a4, a5, a6, a7, ⟨x, y, z, b1, b2⟩, a9⟩ := h
  exact ⟨G, vs, by rw [upd_ne (ne_of_none a1 hq)]; exact a1, a2, fun c o e => by rw [upd_ne (ne_of_none (a3 c o e) hq)]; exact a3 c o e, a4, a5, a6, a7, ⟨x, y, z, by rw [upd_ne (ne_of_none b1 hq)]; exact b1, b2⟩,
    fun c o n e => by rw [upd_ne (ne_of_none (a9 c o n e) hq)]; exact a9 c o n e⟩
theorem TI.ex {H0 H1 : Hp} {p S : Addr} {m : Nat} {ts : List Tr} (h : TI H0 H1 p S m ts) : ∃ vs, H1 S = some (.lst vs) ∧ vs.length = ts.length ∧ S ≠ p := let ⟨_, vs, a, b, _, _, _, _, c, _⟩ := h; ⟨vs, a, b.length, c⟩
theorem TI.old {H0 H1 : Hp} {p S c : Addr} {m : Nat} {ts : List Tr} {o : HO} (h : TI H0 H1 p S m ts) (n : c ≠ p) (e : H0 c = some o) : H1 c = some o := let ⟨_, _, _, _, _, _, _, _, _, _, a9⟩ := h; a9 c o n e
theorem ne_keep {H : Hp} {a e : Addr} {o u : HO} (he : H e = none) (h : H a = some o) : upd H e u a = some o := by rw [upd_ne (ne_of_none h he)]; exact h
/-- a tree more -/
def Leaf (H0 H' : Hp) (p S : Addr) (m : Nat) (ts : List Tr) (v : V) (t : Tr) : Prop :=
  ∃ G vs, H' S = some (.lst vs) ∧ TrsAt G vs ts ∧ TrAt G v t ∧ Same G H' ∧ G S = none ∧ G p = none ∧ H0 S = none ∧ S ≠ p ∧ BoxC H' p m ∧ ∀ c o, c ≠ p → H0 c = some o → H' c = some o
theorem TI.box {H0 H1 : Hp} {p S : Addr} {m : Nat} {ts : List Tr} (h : TI H0 H1 p S m ts) : BoxC H1 p m := let ⟨_, _, _, _, _, _, _, _, _, a8, _⟩ := h; a8
theorem Leaf.box {H0 H1 : Hp} {p S : Addr} {m : Nat} {ts : List Tr} {v : V} {u : Tr} (h : Leaf H0 H1 p S m ts v u) : BoxC H1 p m := let ⟨_, _, _, _, _, _, _, _, _, _, a8, _⟩ := h; a8
theorem Leaf.turn {H0 H1 H2 : Hp} {p S : Addr} {m k : Nat} {ts : List Tr} {v : V} {u : Tr} (h : Leaf H0 H1 p S m ts v u) (t : TurnC H1 H2 p k) : Leaf H0 H2 p S k ts v u := by
  obtain ⟨G, vs, a1, a2, a2', a3, a4, a5, a6, a7, a8, a9⟩ := h
  refine ⟨G, vs, by rw [t.2 S a7]; exact a1, a2, a2', fun c o e => ?_, a4, a5, a6, a7, t.1, fun c o n e => by rw [t.2 c n]; exact a9 c o n e⟩
  rw [t.2 c (fun z => by rw [z, a5] at e; exact nomatch e)]
  exact a3 c o e
theorem Leaf.new {H0 H1 : Hp} {p S q : Addr} {m : Nat} {ts : List Tr} {o : HO} {v : V} {u : Tr} (h : Leaf H0 H1 p S m ts v u) (hq : H1 q = none) : Leaf H0 (upd H1 q o) p S m ts v u := by
  obtain ⟨G, vs, a1, a2, a2', a3, a4, a5, a6, a7, ⟨x, y, z, b1, b2⟩, a9⟩ := h
  exact ⟨G, vs, by rw [upd_ne (ne_of_none a1 hq)]; exact a1, a2, a2', fun c o e => by rw [upd_ne (ne_of_none (a3 c o e) hq)]; exact a3 c o e, a4, a5, a6, a7, ⟨x, y, z, by rw [upd_ne (ne_of_none b1 hq)]; exact b1, b2⟩,
    fun c o n e => by rw [upd_ne (ne_of_none (a9 c o n e) hq)]; exact a9 c o n e⟩
/-- a new tuple that is a tree -/
theorem TI.tup {H0 H1 : Hp} {p S q : Addr} {m : Nat} {ts : List Tr} {xs : List V} {t : Tr} (h : TI H0 H1 p S m ts) (hq : H1 q = none) (ht : ∀ G : Hp, G q = some (.tup xs) → TrAt G (.ref q) t) : Leaf H0 (upd H1 q (.tup xs)) p S m ts (.ref q) t := by
  obtain ⟨G, vs, a1, a2, a3, a4, a5, a6, a7, ⟨x, y, z, b1, b2⟩, a9⟩ := h
  have Sq : S ≠ q := ne_of_none a1 hq
  have pq : p ≠ q := ne_of_none b1 hq
  have Gq : G q = none := none_of a3 hq
  refine ⟨upd G q (.tup xs), vs, by rw [upd_ne Sq]; exact a1, a2.same fun c o e => by rw [upd_ne (ne_of_none e Gq)]; exact e, ht _ upd_same, fun c o e => ?_, by rw [upd_ne Sq]; exact a4, by rw [upd_ne pq]; exact a5, a6, a7, ⟨x, y, z, by rw [upd_ne pq]; exact b1, b2⟩,
    fun c o n e => by rw [upd_ne (ne_of_none (a9 c o n e) hq)]; exact a9 c o n e⟩
  by_cases c1 : c = q
  · rw [c1, upd_same] at e ⊢
    exact e
  · rw [upd_ne c1] at e ⊢
    exact a3 c o e
/-- it is appended -/
theorem Leaf.app {H0 H1 : Hp} {p S : Addr} {m : Nat} {ts : List Tr} {v : V} {t : Tr} (h : Leaf H0 H1 p S m ts v t) : ∃ vs, H1 S = some (.lst vs) ∧ vs.length = ts.length ∧ TI H0 (upd H1 S (.lst (vs ++ [v]))) p S m (ts ++ [t]) := by
  obtain ⟨G, vs, a1, a2, a2', a3, a4, a5, a6, a7, ⟨x, y, z, b1, b2⟩, a9⟩ := h
  refine ⟨vs, a1, a2.length, G, vs ++ [v], upd_same, trs_append a2 (.cons a2' .nil), fun c o e => ?_, a4, a5, a6, a7, ⟨x, y, z, by rw [upd_ne a7.symm]; exact b1, b2⟩, fun c o n e => ?_⟩
  · rw [upd_ne (fun z => by rw [z, a4] at e; exact nomatch e)]
    exact a3 c o e
  · rw [upd_ne (fun z => by rw [z, a6] at e; exact nomatch e)]
    exact a9 c o n e
/-- with the list and the trees' part told -/
def TV (H0 H' : Hp) (p S : Addr) (m : Nat) (G : Hp) (vs : List V) (ts : List Tr) : Prop :=
  H' S = some (.lst vs) ∧ TrsAt G vs ts ∧ Same G H' ∧ G S = none ∧ G p = none ∧ H0 S = none ∧ S ≠ p ∧ BoxC H' p m ∧ ∀ c o, c ≠ p → H0 c = some o → H' c = some o
theorem TV.box {H0 H1 G : Hp} {p S : Addr} {m : Nat} {vs : List V} {ts : List Tr} (h : TV H0 H1 p S m G vs ts) : BoxC H1 p m := h.2.2.2.2.2.2.2.1
theorem TV.turn {H0 H1 H2 G : Hp} {p S : Addr} {m k : Nat} {vs : List V} {ts : List Tr} (h : TV H0 H1 p S m G vs ts) (t : TurnC H1 H2 p k) : TV H0 H2 p S k G vs ts := by
  obtain ⟨a1, a2, a3, a4, a5, a6, a7, a8, a9⟩ := h
  refine ⟨by rw [t.2 S a7]; exact a1, a2, fun c o e => ?_, a4, a5, a6, a7, t.1, fun c o n e => by rw [t.2 c n]; exact a9 c o n e⟩
  rw [t.2 c (fun z => by rw [z, a5] at e; exact nomatch e)]
  exact a3 c o e
theorem TV.new {H0 H1 G : Hp} {p S q : Addr} {m : Nat} {vs : List V} {ts : List Tr} {o : HO} (h : TV H0 H1 p S m G vs ts) (hq : H1 q = none) : TV H0 (upd H1 q o) p S m G vs ts := by
  obtain ⟨a1, a2, a3, a4, a5, a6, a7, ⟨x, y, z, b1, b2⟩, a9⟩ := h
  exact ⟨ne_keep hq a1, a2, fun c o e => ne_keep hq (a3 c o e), a4, a5, a6, a7, ⟨x, y, z, ne_keep hq b1, b2⟩, fun c o n e => ne_keep hq (a9 c o n e)⟩
theorem trs_set {G : Hp} : ∀ {vs : List V} {ts : List Tr} {j : Nat} {v : V} {t : Tr}, TrsAt G vs ts → TrAt G v t → TrsAt G (vs.set j v) (ts.set j t)
  | _, _, _, _, _, .nil, _ => .nil
  | _, _, 0, _, _, .cons _ r, h => .cons h r
  | _, _, j + 1, _, _, .cons k r, h => .cons k (trs_set (j := j) r h)
theorem TV.wrap {H0 H1 G : Hp} {p S q : Addr} {m j : Nat} {vs : List V} {ts : List Tr} {v : V} {t : Tr} (h : TV H0 H1 p S m G vs ts) (hq : H1 q = none) (k : _root_.Fin 3) (hv : vs[j]? = some v) (ht : ts[j]? = some t) :
    (upd H1 q (.tup [.str (sSgn k), v])) S = some (.lst vs) ∧ TV H0 (upd (upd H1 q (.tup [.str (sSgn k), v])) S (.lst (vs.set j (.ref q)))) p S m (upd G q (.tup [.str (sSgn k), v])) (vs.set j (.ref q)) (ts.set j (.sgn k t)) := by
  obtain ⟨a1, a2, a3, a4, a5, a6, a7, ⟨x, y, z, b1, b2⟩, a9⟩ := h
  have Sq : S ≠ q := ne_of_none a1 hq
  have pq : p ≠ q := ne_of_none b1 hq
  have Gq : G q = none := none_of a3 hq
  have up : Same G (upd G q (.tup [.str (sSgn k), v])) := fun c o e => ne_keep Gq e
  obtain ⟨t', e1, e2⟩ := a2.at hv
  rw [ht] at e1
  cases e1
  refine ⟨ne_keep hq a1, upd_same, trs_set (a2.same up) (.sgn upd_same (e2.same up)), fun c o e => ?_, by rw [upd_ne Sq]; exact a4, by rw [upd_ne pq]; exact a5, a6, a7, ⟨x, y, z, by rw [upd_ne a7.symm]; exact ne_keep hq b1, b2⟩, fun c o n e => ?_⟩
  · have cS : c ≠ S := fun z => by rw [z, upd_ne Sq, a4] at e; exact nomatch e
    rw [upd_ne cS]
    by_cases c1 : c = q
    · rw [c1, upd_same] at e ⊢
      exact e
    · rw [upd_ne c1] at e ⊢
      exact a3 c o e
  · rw [upd_ne (fun z => by rw [z, a6] at e; exact nomatch e)]
    exact ne_keep hq (a9 c o n e)
theorem trs_take {G : Hp} : ∀ {vs : List V} {ts : List Tr} (j : Nat), TrsAt G vs ts → TrsAt G (vs.take j) (ts.take j)
  | _, _, 0, _ => .nil
  | _, _, _ + 1, .nil => .nil
  | _, _, j + 1, .cons h r => .cons h (trs_take j r)
theorem trs_drop {G : Hp} : ∀ {vs : List V} {ts : List Tr} (j : Nat), TrsAt G vs ts → TrsAt G (vs.drop j) (ts.drop j)
  | _, _, 0, h => h
  | _, _, _ + 1, .nil => .nil
  | _, _, j + 1, .cons _ r => trs_drop j r
/-- the list is another one now -/
theorem TV.move {H0 H1 G : Hp} {p S S' : Addr} {m : Nat} {vs vs' : List V} {ts ts' : List Tr} (h : TV H0 H1 p S m G vs ts) (hq : H1 S' = none) (ht : TrsAt G vs' ts') : TV H0 (upd H1 S' (.lst vs')) p S' m G vs' ts' := by
  obtain ⟨a1, a2, a3, a4, a5, a6, a7, ⟨x, y, z, b1, b2⟩, a9⟩ := h
  have pq : p ≠ S' := ne_of_none b1 hq
  refine ⟨upd_same, ht, fun c o e => ne_keep hq (a3 c o e), none_of a3 hq, a5, ?_, pq.symm, ⟨x, y, z, ne_keep hq b1, b2⟩, fun c o n e => ne_keep hq (a9 c o n e)⟩
  cases e : H0 S' with
  | none => rfl
  | some o => rw [a9 S' o pq.symm e] at hq; exact nomatch hq
/-- a list of trees and its pair -/
theorem TV.pair {H0 H1 G : Hp} {p S qB qT : Addr} {m : Nat} {vs B : List V} {ts Bt : List Tr} {x : Str} (h : TV H0 H1 p S m G vs ts) (hB : H1 qB = none) (hT : (upd H1 qB (.lst B)) qT = none) (b : TrsAt G B Bt) :
    TV H0 (upd (upd H1 qB (.lst B)) qT (.tup [.str x, .ref qB])) p S m (upd (upd G qB (.lst B)) qT (.tup [.str x, .ref qB])) vs ts ∧ Same G (upd (upd G qB (.lst B)) qT (.tup [.str x, .ref qB])) ∧
    (upd (upd G qB (.lst B)) qT (.tup [.str x, .ref qB])) qT = some (.tup [.str x, .ref qB]) ∧ (upd (upd G qB (.lst B)) qT (.tup [.str x, .ref qB])) qB = some (.lst B) ∧ TrsAt (upd (upd G qB (.lst B)) qT (.tup [.str x, .ref qB])) B Bt := by
  have h2 := (h.new (o := .lst B) hB).new (o := .tup [.str x, .ref qB]) hT
  obtain ⟨c1, _, _, _, _, c6, c7, c8, c9⟩ := h2
  obtain ⟨a1, a2, a3, a4, a5, a6, a7, ⟨y1, y2, y3, b1, b2⟩, a9⟩ := h
  have GB : G qB = none := none_of a3 hB
  have BT : qB ≠ qT := fun z => by rw [← z, upd_same] at hT; exact nomatch hT
  have HT : H1 qT = none := by rw [upd_ne BT.symm] at hT; exact hT
  have GT : (upd G qB (.lst B)) qT = none := by rw [upd_ne BT.symm]; exact none_of a3 HT
  have up : Same G (upd (upd G qB (.lst B)) qT (.tup [.str x, .ref qB])) := fun c o e => ne_keep GT (ne_keep GB e)
  refine ⟨⟨c1, a2.same up, fun c o e => ?_, ?_, ?_, c6, c7, c8, c9⟩, up, upd_same, by rw [upd_ne BT]; exact upd_same, b.same up⟩
  · by_cases z : c = qT
    · rw [z, upd_same] at e ⊢
      exact e
    · rw [upd_ne z] at e ⊢
      by_cases z2 : c = qB
      · rw [z2, upd_same] at e ⊢
        exact e
      · rw [upd_ne z2] at e ⊢
        exact a3 c o e
  · rw [upd_ne (ne_of_none a1 HT), upd_ne (ne_of_none a1 hB)]
    exact a4
  · rw [upd_ne (ne_of_none b1 HT), upd_ne (ne_of_none b1 hB)]
    exact a5
theorem nds_parts (ts : List Tr) (a b : Nat) : nds ts = nds (ts.take a) + nds ((ts.drop a).take b) + nds (ts.drop (a + b)) := by
  have e1 : ts = ts.take a ++ ((ts.drop a).take b ++ (ts.drop a).drop b) := by rw [List.take_append_drop, List.take_append_drop]
  have e2 := congrArg nds e1
  rw [nds_app, nds_app, List.drop_drop] at e2
  omega
theorem nd_le : ∀ {ts : List Tr} {j : Nat} {t : Tr}, ts[j]? = some t → nd t ≤ nds ts
  | [], _, _, e => nomatch e
  | u :: l, 0, t, e => by
    injection e with e
    subst e
    exact Nat.le_add_right _ _
  | u :: l, j + 1, t, e => Nat.le_trans (nd_le (ts := l) (j := j) e) (Nat.le_add_left _ _)
theorem heights_le {h : Nat} (pos : 1 ≤ h) : ∀ {l : List Tr}, (∀ t ∈ l, t.height ≤ h) → heights l ≤ h
  | [], _ => pos
  | t :: l, e => by
    show max t.height (heights l) ≤ h
    have h1 := e t (.head _)
    have h2 := heights_le pos (l := l) fun u hu => e u (.tail _ hu)
    omega
theorem wfs_of : ∀ {l : List Tr}, (∀ t ∈ l, t.Wf) → Wfs l
  | [], _ => trivial
  | t :: l, e => ⟨e t (.head _), wfs_of fun u hu => e u (.tail _ hu)⟩
theorem abs_of : ∀ {l : List Tr}, (∀ t ∈ l, ab t) → abs l
  | [], _ => trivial
  | t :: l, e => ⟨e t (.head _), abs_of fun u hu => e u (.tail _ hu)⟩
theorem Gts.pos {h : Nat} {l : List Tr} (g : Gts h l) (h2 : 2 ≤ l.length) : 1 ≤ h := by
  cases l with
  | nil => exact absurd h2 (by decide)
  | cons t l => exact Nat.le_trans (height_pos t) (g t (.head _)).2.2
theorem Gts.seq {h : Nat} {l : List Tr} (g : Gts h l) (h2 : 2 ≤ l.length) (h3 : l.length ≤ 1000) : Gt (h + 1) (.seq l) := ⟨⟨h2, h3, wfs_of fun t ht => (g t ht).1⟩, abs_of fun t ht => (g t ht).2.1, Nat.succ_le_succ (heights_le (g.pos h2) fun t ht => (g t ht).2.2)⟩
theorem Gts.cho {h : Nat} {l : List Tr} (g : Gts h l) (h2 : 2 ≤ l.length) (h3 : l.length ≤ 1000) : Gt (h + 1) (.cho l) := ⟨⟨h2, h3, wfs_of fun t ht => (g t ht).1⟩, abs_of fun t ht => (g t ht).2.1, Nat.succ_le_succ (heights_le (g.pos h2) fun t ht => (g t ht).2.2)⟩
theorem Gt.up {h k : Nat} {t : Tr} (g : Gt h t) (e : h ≤ k) : Gt k t := ⟨g.1, g.2.1, Nat.le_trans g.2.2 e⟩
theorem fin3 {k : Int} (h0 : 0 ≤ k) (h1 : k < 3) : ∃ kf : _root_.Fin 3, atI [V.str "many", .str "some", .str "maybe"] k = some (.str (sSgn kf)) := by
  have : k = 0 ∨ k = 1 ∨ k = 2 := by omega
  rcases this with rfl | rfl | rfl
  · exact ⟨0, rfl⟩
  · exact ⟨1, rfl⟩
  · exact ⟨2, rfl⟩
theorem nds_set : ∀ {ts : List Tr} {j : Nat} {t : Tr} {k : _root_.Fin 3}, ts[j]? = some t → nds (ts.set j (.sgn k t)) = nds ts + 1
  | [], _, _, _, e => nomatch e
  | u :: l, 0, t, k, e => by
    injection e with e
    subst e
    show nd u + 1 + nds l = nd u + nds l + 1
    omega
  | u :: l, j + 1, t, k, e => by
    show nd u + nds (l.set j (.sgn k t)) = nd u + nds l + 1
    rw [nds_set (ts := l) (j := j) e]
    omega
def spTree : Sp := fun vs H Q _ => ∃ (p la na : Addr), vs = [.ref p, .ref la, .ref na] ∧ BoxC H p 0 ∧ H la = some (.lst [.str "a", .str "b"]) ∧ H na = some (.lst [.str "x"]) ∧
  ∀ t v H', Gt 21 t → nd t ≤ 60 → (∀ c o, c ≠ p → H c = some o → H' c = some o) → TrAt H' v t → Q v H'
section
variable {P : Program} {w : World} {K : PySem.W.Frag} {mg : Str → Option Value} {base : Heap} {aS aL C_L f_L C_U f_U : Addr} {es : Array DictEntry} {n : Nat}
abbrev s_law_tree : Stmt := top 47
theorem sc_law_tree : FnScope ["_law_box_here", "_law_letters", "_law_names", "_law_some", "_law_turn", "_law_way", "_law_at", "_law_size"] ["_law_box_here", "_law_letters", "_law_names"] (defScope s_law_tree) := ⟨rfl, rfl, rfl, by decide +kernel, rfl, by decide +kernel, by decide +kernel⟩
theorem ok_tree {f f1 : Addr} {fd fd1 : FuncData} (F : Fun K "_law_tree" "_law_tree" s_law_tree f fd) (T : Txt w K mg base aS aL es n) (zr : mg "range" = none)
    (D__law_take : Df P w K mg base CX0 1 "_law_take" f1 fd1 ["_law_box_here", "_law_many"] spTakeC) : FnG P w K mg base CX0 2 f fd ["_law_box_here", "_law_letters", "_law_names"] spTree := by
  refine okG F sc_law_tree (fun vs H Q E h => ?_) (fun cdv A outer s H vs Q E hc hr h => ?_)
  · obtain ⟨p, la, na, rfl, _⟩ := h
    rfl
  obtain ⟨p, la, na, rfl, hb, hla, hna, q⟩ := h
  refine ⟨_, (pss_cons (ps_set (i := 3) sc_law_tree.nd rfl (Or.inl rfl) (pe_lst pa_nil))
 (pss_cons (ps_for (passes_of rfl) rfl (pi_range1 rfl zr (pa_cons (pe_op op_add pe_int (pe_d D__law_take hc (hr.mono (by omega)) (by rfl) (fun _ => passN) (pa_cons (pv 0) (pa_cons pe_int pa_nil)))) pa_nil)) (pg_name (i := 4) sc_law_tree.nd rfl (Or.inl rfl))
  (pss_cons (ps_set (i := 5) sc_law_tree.nd rfl (Or.inl rfl) (pe_d D__law_take hc (hr.mono (by omega)) (by rfl) (fun _ => passN) (pa_cons (pv 0) (pa_cons pe_int pa_nil))))
 (pss_one (ps_if (pt_cmpR op_eq (pv 5) pe_int (nomark _))
  (pss_one (ps_expr (pe_bm PySem.F.plainAttrs_list PySem.F.slot_list_append PySem.F.type_list_append mt_append (pv 3) (pa_cons (pe_ix ix_list (pe_lst (pa_cons (pe_tup (pa_cons pe_str pa_nil)) (pa_cons (pe_tup (pa_cons pe_str pa_nil)) pa_nil))) (pe_d D__law_take hc (hr.mono (by omega)) (by rfl) (fun _ => passN) (pa_cons (pv 0) (pa_cons pe_int pa_nil))) (fun _ _ => rfl)) pa_nil)))) (pss_one (ps_if (PW.pt (pw_and (pt_cmpR op_lt (pv 5) pe_int (nomark _)) (pw_and1 (pt_cmpR (op_neD hr.units) (pv 2) (pe_lst pa_nil) (nomark _)))))
  (pss_one (ps_expr (pe_bm PySem.F.plainAttrs_list PySem.F.slot_list_append PySem.F.type_list_append mt_append (pv 3) (pa_cons (pe_tup (pa_cons pe_str (pa_cons (pe_ix ix_list (pv 2) (pe_d D__law_take hc (hr.mono (by omega)) (by rfl) (fun _ => passN) (pa_cons (pv 0) (pa_cons (pe_callB call_len_seq (by rfl) T.z_len (by decide +kernel) (pa_cons (pv 2) pa_nil)) pa_nil))) (fun _ _ => rfl)) pa_nil))) pa_nil)))) (pss_one (ps_expr (pe_bm PySem.F.plainAttrs_list PySem.F.slot_list_append PySem.F.type_list_append mt_append (pv 3) (pa_cons (pe_tup (pa_cons pe_str (pa_cons (pe_ix ix_list (pv 1) (pe_d D__law_take hc (hr.mono (by omega)) (by rfl) (fun _ => passN) (pa_cons (pv 0) (pa_cons (pe_callB call_len_seq (by rfl) T.z_len (by decide +kernel) (pa_cons (pv 1) pa_nil)) pa_nil))) (fun _ _ => rfl)) pa_nil))) pa_nil))))))))))
 (pss_cons (ps_for (passes_of rfl) rfl (pi_range1 rfl zr (pa_cons (pe_d D__law_take hc (hr.mono (by omega)) (by rfl) (fun _ => passN) (pa_cons (pv 0) (pa_cons pe_int pa_nil))) pa_nil)) (pg_name (i := 4) sc_law_tree.nd rfl (Or.inl rfl))
  (pss_cons (ps_set (i := 6) sc_law_tree.nd rfl (Or.inl rfl) (pe_d D__law_take hc (hr.mono (by omega)) (by rfl) (fun _ => passN) (pa_cons (pv 0) (pa_cons (pe_callB call_len_seq (by rfl) T.z_len (by decide +kernel) (pa_cons (pv 3) pa_nil)) pa_nil))))
 (pss_cons (ps_set (i := 7) sc_law_tree.nd rfl (Or.inl rfl) (pe_op op_add pe_int (pe_d D__law_take hc (hr.mono (by omega)) (by rfl) (fun _ => passN) (pa_cons (pv 0) (pa_cons pe_int pa_nil)))))
 (pss_one (ps_if (PW.pt (pw_or (pt_cmpR op_eq (pe_d D__law_take hc (hr.mono (by omega)) (by rfl) (fun _ => passN) (pa_cons (pv 0) (pa_cons pe_int pa_nil))) pe_int (nomark _)) (pw_or1 (pt_cmpR op_lt (pe_callB call_len_seq (by rfl) T.z_len (by decide +kernel) (pa_cons (pv 3) pa_nil)) (pe_op op_add (pv 6) (pv 7)) (nomark _)))))
  (pss_one (ps_asg (pe_tup (pa_cons (pe_ix ix_list (pe_lst (pa_cons pe_str (pa_cons pe_str (pa_cons pe_str pa_nil)))) (pe_d D__law_take hc (hr.mono (by omega)) (by rfl) (fun _ => passN) (pa_cons (pv 0) (pa_cons pe_int pa_nil))) (fun _ _ => rfl)) (pa_cons (pe_ix ix_list (pv 3) (pv 6) (fun _ _ => rfl)) pa_nil))) (pg_sub (pv 3) (pv 6) set_list))) (pss_one (ps_set (i := 3) sc_law_tree.nd rfl (Or.inl rfl) (pe_op op_cat (pe_op op_cat (pe_slice sl_list (pv 3) po_none (po_some (pv 6))) (pe_lst (pa_cons (pe_tup (pa_cons (pe_ix ix_list (pe_lst (pa_cons pe_str (pa_cons pe_str pa_nil))) (pe_d D__law_take hc (hr.mono (by omega)) (by rfl) (fun _ => passN) (pa_cons (pv 0) (pa_cons pe_int pa_nil))) (fun _ _ => rfl)) (pa_cons (pe_slice sl_list (pv 3) (po_some (pv 6)) (po_some (pe_op op_add (pv 6) (pv 7)))) pa_nil))) pa_nil))) (pe_slice sl_list (pv 3) (po_some (pe_op op_add (pv 6) (pv 7))) po_none)))))))))
 (pss_one (ps_ret (pe_ifExp (pt_cmpR op_eq (pe_callB call_len_seq (by rfl) T.z_len (by decide +kernel) (pa_cons (pv 3) pa_nil)) pe_int (nomark _)) (pe_ix ix_list (pv 3) pe_int (fun _ _ => rfl)) (pe_tup (pa_cons (pe_ix ix_list (pe_lst (pa_cons pe_str (pa_cons pe_str pa_nil))) (pe_d D__law_take hc (hr.mono (by omega)) (by rfl) (fun _ => passN) (pa_cons (pv 0) (pa_cons pe_int pa_nil))) (fun _ _ => rfl)) (pa_cons (pv 3) pa_nil))))))))), ?_⟩
  have z16 := sizeLine_eq
  have pla : la ≠ p := fun z => by obtain ⟨a, b, c, e, _⟩ := hb; rw [z, e] at hla; exact nomatch hla
  have pna : na ≠ p := fun z => by obtain ⟨a, b, c, e, _⟩ := hb; rw [z, e] at hna; exact nomatch hna
  refine ⟨by show 0 ≤ sizeLine; omega, fun S hS => ?_⟩
  have pS : S ≠ p := fun z => by obtain ⟨a, b, c, e, _⟩ := hb; rw [z, e] at hS; exact nomatch hS
  have I0 : TI H (upd H S (.lst [])) p S 0 [] := ⟨fun _ => none, [], upd_same, .nil, (fun _ _ e => nomatch e), rfl, rfl, hS, pS, (by
    obtain ⟨a, b, c, e, r⟩ := hb
    exact ⟨a, b, c, by rw [upd_ne pS.symm]; exact e, r⟩), fun c o n e => by rw [upd_ne (ne_of_none e hS)]; exact e⟩
  refine ⟨_, rfl, p, 7, 0, rfl, I0.box, by decide, by decide, by decide, fun d H1 d0 d1 t1 => ?_⟩
  refine ⟨_, _, rfl, rfl, _, rfl, by omega, by omega, ?_⟩
  have I1 := I0.turn t1
  refine for_range (fun i σ H' => ∃ o4 o5 m ts, σ = [some (.ref p), some (.ref la), some (.ref na), some (.ref S), o4, o5, none, none] ∧ m ≤ 1 + 2 * i ∧ TI H H' p S m ts ∧ Gts 1 ts ∧ ts.length = i ∧ nds ts = i)
    ⟨none, none, 1, [], rfl, by omega, I1, (fun _ z => nomatch z), rfl, rfl⟩ ?_ ?_
  · rintro i _ H2 hi ⟨o4, o5, m, ts, rfl, hm, I, gts, lts, nts⟩
    have i7 : i < 7 := by omega
    refine ⟨_, rfl, p, 10, m, rfl, I.box, by omega, by decide, by decide, fun y H3 y0 y1 t3 => ?_⟩
    have I3 := I.turn t3
    have done : ∀ (H4 : Hp) (v : V) (t : Tr) (k : Nat), Leaf H H4 p S k ts v t → Gt 1 t → nd t = 1 → k ≤ m + 2 → ∃ vs, H4 S = some (.lst vs) ∧ vs.length + 1 ≤ sizeLine ∧ ∃ o4 o5 m' ts', (([some (.ref p), some (.ref la), some (.ref na), some (.ref S), some (.int (0 + (i : Nat))), some (.int y), none, none] : St) = [some (.ref p), some (.ref la), some (.ref na), some (.ref S), o4, o5, none, none]) ∧ m' ≤ 1 + 2 * (i + 1) ∧ TI H (upd H4 S (.lst (vs ++ [v]))) p S m' ts' ∧ Gts 1 ts' ∧ ts'.length = i + 1 ∧ nds ts' = i + 1 := by
      intro H4 v t k L g1 g2 g3
      obtain ⟨vs, b1, b2, b3⟩ := L.app
      refine ⟨vs, b1, by omega, _, _, k, ts ++ [t], rfl, by omega, b3, fun u hu => ?_, by rw [List.length_append, lts]; rfl, ?_⟩
      · rcases List.mem_append.mp hu with hu | hu
        · exact gts u hu
        · rw [List.mem_singleton.mp hu]
          exact g1
      · rw [nds_app, nts]
        show i + (nd t + 0) = i + 1
        omega
    refine ⟨_, rfl, rfl, _, rfl, ?_⟩
    obtain ⟨us, hus, _⟩ := I3.ex
    refine iteB (fun c => ?_) (fun c => ?_)
    · refine ⟨_, rfl, .inl ⟨rfl, _, SqL.of hus⟩, by show 1 ≤ sizeLine; omega, fun q1 hq1 => ⟨by show 1 ≤ sizeLine; omega, fun q2 hq2 => ⟨by show 2 ≤ sizeLine; omega, fun l hl => ?_⟩⟩⟩
      have L1 := I3.tup (t := .none) hq1 (fun G e => .none e)
      have L2 := L1.new (o := .tup [.str sEmpty]) hq2
      have I4 := (I3.new (o := .tup [.str sNone]) hq1).tup (t := .empty) hq2 (fun G e => .empty e)
      have L3 := L2.new (o := .lst [.ref q1, .ref q2]) hl
      have I5 := I4.new (o := .lst [.ref q1, .ref q2]) hl
      refine ⟨_, rfl, p, 2, m + 1, rfl, L3.box, by omega, by decide, by decide, fun k H5 k0 k1 t5 => ?_⟩
      have L6 := L3.turn t5
      have hl5 : H5 l = some (.lst [.ref q1, .ref q2]) := by
        have lp : l ≠ p := fun z => by obtain ⟨a, b, c, e, _⟩ := L2.box; rw [z, e] at hl; exact nomatch hl
        rw [t5.2 l lp]
        exact upd_same
      have I6 := I5.turn t5
      have k2 : k = 0 ∨ k = 1 := by omega
      rcases k2 with rfl | rfl
      · obtain ⟨vs, a1, a2, a3⟩ := done _ _ _ _ L6 ⟨trivial, trivial, Nat.le_refl _⟩ rfl (by omega)
        exact ⟨l, _, 0, _, rfl, rfl, SqL.of hl5, atI_nat (j := 0) rfl, S, _, _, rfl, rfl, a1, a2, a3⟩
      · obtain ⟨vs, a1, a2, a3⟩ := done _ _ _ _ I6 ⟨trivial, trivial, Nat.le_refl _⟩ rfl (by omega)
        exact ⟨l, _, 1, _, rfl, rfl, SqL.of hl5, atI_nat (j := 1) rfl, S, _, _, rfl, rfl, a1, a2, a3⟩
    -- a letter
    have hla3 := I3.old pla hla
    have hna3 := I3.old pna hna
    refine ⟨_, rfl, _, _, rfl, rfl, _, rfl, ?_⟩
    refine iteB (fun c1 => ?_) (fun c1 => ?_)
    · refine ⟨_, rfl, by show 0 ≤ sizeLine; omega, fun e he => ?_⟩
      have I4 := I3.new (o := .lst []) he
      have hna4 := ne_keep (u := .lst []) he hna3
      refine ⟨.list [.str "x"], .list [], .lst (SqL.of hna4) (.cons (.str _) .nil), .lst (SqL.of upd_same) .nil, by decide +kernel, by decide +kernel, _, rfl, ?_⟩
      have ne : (!PyData.eqv (.list [.str "x"]) (.list [])) = true := by decide +kernel
      rw [ne]
      refine iteT ?_
      obtain ⟨us4, hus4, _⟩ := I4.ex
      refine ⟨_, rfl, .inl ⟨rfl, _, SqL.of hus4⟩, _, rfl, _, rfl, _, rfl, na, _, rfl, .inl (SqL.of hna4), ?_⟩
      refine ⟨p, _, m + 1, rfl, I4.box, by omega, by show (0 : Int) < 1; decide, by show (1 : Int) < 1000000; decide, fun k H5 k0 k1 t5 => ?_⟩
      have k2 : k = 0 := by
        have : k < 1 := k1
        omega
      subst k2
      have I5 := I4.turn t5
      have hna5 : H5 na = some (.lst [.str "x"]) := by rw [t5.2 na pna]; exact hna4
      refine ⟨na, _, 0, _, rfl, rfl, SqL.of hna5, atI_nat (j := 0) rfl, by show 2 ≤ sizeLine; omega, fun q1 hq1 => ?_⟩
      have L6 := I5.tup (t := .name "x") hq1 (fun G e => .name e)
      obtain ⟨vs, a1, a2, a3⟩ := done _ _ _ _ L6 ⟨⟨⟨by decide +kernel, by decide +kernel⟩, by decide +kernel, by decide +kernel⟩, rfl, Nat.le_refl _⟩ rfl (by omega)
      exact ⟨S, _, _, rfl, rfl, a1, a2, a3⟩
    · obtain ⟨us3, hus3, _⟩ := I3.ex
      refine ⟨_, rfl, .inl ⟨rfl, _, SqL.of hus3⟩, _, rfl, _, rfl, _, rfl, la, _, rfl, .inl (SqL.of hla3), ?_⟩
      refine ⟨p, _, m + 1, rfl, I3.box, by omega, by show (0 : Int) < 2; decide, by show (2 : Int) < 1000000; decide, fun k H5 k0 k1 t5 => ?_⟩
      have I5 := I3.turn t5
      have hla5 : H5 la = some (.lst [.str "a", .str "b"]) := by rw [t5.2 la pla]; exact hla3
      have k2 : k = 0 ∨ k = 1 := by
        have : k < 2 := k1
        omega
      rcases k2 with rfl | rfl
      · refine ⟨la, _, 0, _, rfl, rfl, SqL.of hla5, atI_nat (j := 0) rfl, by show 2 ≤ sizeLine; omega, fun q1 hq1 => ?_⟩
        have L6 := I5.tup (t := .letter 97) hq1 (fun G e => .letter e)
        obtain ⟨vs, a1, a2, a3⟩ := done _ _ _ _ L6 ⟨by show low 97 = true; decide, .inl rfl, Nat.le_refl _⟩ rfl (by omega)
        exact ⟨S, _, _, rfl, rfl, a1, a2, a3⟩
      · refine ⟨la, _, 1, _, rfl, rfl, SqL.of hla5, atI_nat (j := 1) rfl, by show 2 ≤ sizeLine; omega, fun q1 hq1 => ?_⟩
        have L6 := I5.tup (t := .letter 98) hq1 (fun G e => .letter e)
        obtain ⟨vs, a1, a2, a3⟩ := done _ _ _ _ L6 ⟨by show low 98 = true; decide, .inr rfl, Nat.le_refl _⟩ rfl (by omega)
        exact ⟨S, _, _, rfl, rfl, a1, a2, a3⟩
  rintro _ H2 ⟨o4, o5, m, ts, rfl, hm, I2, gts0, lts, nts⟩
  have d7 : (1 + d).toNat ≤ 7 ∧ 1 ≤ (1 + d).toNat := by omega
  generalize (1 + d).toNat = N at d7 hm lts nts
  refine ⟨_, rfl, p, 12, m, rfl, I2.box, by omega, by decide, by decide, fun d3 H3 e0 e1 t3 => ⟨_, rfl, by omega, by omega, ?_⟩⟩
  refine for_range (fun i σ H' => ∃ S o4 o5 o6 o7 G vs m ts, σ = [some (.ref p), some (.ref la), some (.ref na), some (.ref S), o4, o5, o6, o7] ∧ m ≤ 16 + 6 * i ∧ TV H H' p S m G vs ts ∧ Gts (1 + i) ts ∧ 1 ≤ ts.length ∧ ts.length ≤ 7 ∧ nds ts ≤ 7 + i) ?_ ?_ ?_
  · obtain ⟨G, vs, b⟩ := I2.turn t3
    exact ⟨S, o4, o5, none, none, G, vs, m + 1, ts, rfl, by omega, b, gts0, by omega, by omega, by omega⟩
  · rintro i _ H4 hi ⟨S, o4, o5, o6, o7, G, vs, m, ts, rfl, hm, I, gts, l1, l7, hnd⟩
    have i12 : i < 12 := by omega
    have lvs := I.2.1.length
    refine ⟨_, rfl, _, rfl, S, _, rfl, .inl (SqL.of I.1), p, _, m, rfl, I.box, by omega, by omega, by omega, fun at0 H5 a0 a1 t5 => ?_⟩
    have I5 := I.turn t5
    obtain ⟨at', rfl⟩ := Int.eq_ofNat_of_zero_le a0
    have hlt : at' < vs.length := by omega
    refine ⟨_, rfl, p, 2, m + 1, rfl, I5.box, by omega, by decide, by decide, fun z H6 z0 z1 t6 => ⟨_, _, rfl, rfl, ?_⟩⟩
    have I6 := I5.turn t6
    obtain ⟨zz, rfl⟩ := Int.eq_ofNat_of_zero_le z0
    refine ⟨_, rfl, p, 2, m + 2, rfl, I6.box, by omega, by decide, by decide, fun k H7 k0 k1 t7 => ⟨rfl, _, rfl, ?_⟩⟩
    have I7 := I6.turn t7
    obtain ⟨v0, hat⟩ : ∃ v0, vs[at']? = some v0 := ⟨_, List.getElem?_eq_getElem hlt⟩
    obtain ⟨t0, htat, _⟩ := I.2.1.at hat
    refine iteB (fun c => ?_) (fun c => ?_)
    · refine iteT ?_
      refine ⟨by show 3 ≤ sizeLine; omega, fun l hl => ?_⟩
      have J1 := I7.new (o := .lst [.str "many", .str "some", .str "maybe"]) hl
      have lp : l ≠ p := fun z => by obtain ⟨a, b, c, e, _⟩ := I7.box; rw [z, e] at hl; exact nomatch hl
      refine ⟨_, rfl, p, 3, m + 3, rfl, J1.box, by omega, by decide, by decide, fun kk H8 kk0 kk1 t8 => ?_⟩
      have J2 := J1.turn t8
      have hl8 : H8 l = some (.lst [.str "many", .str "some", .str "maybe"]) := by rw [t8.2 l lp]; exact upd_same
      obtain ⟨kf, hkf⟩ := fin3 kk0 kk1
      refine ⟨l, _, _, _, rfl, rfl, SqL.of hl8, hkf, _, rfl, _, rfl, S, _, _, _, rfl, rfl, SqL.of J2.1, atI_nat (j := at') hat, by show 2 ≤ sizeLine; omega, fun q1 hq1 => ?_⟩
      obtain ⟨b1, b2⟩ := J2.wrap hq1 kf hat htat
      refine ⟨_, rfl, _, rfl, S, _, _, _, rfl, rfl, b1, ixN_nat hlt, S, _, _, _, _, _, _, m + 4, _, rfl, by omega, b2, fun u hu => ?_, ?_, ?_, ?_⟩
      · rcases List.mem_or_eq_of_mem_set hu with hu | rfl
        · exact (gts u hu).up (by omega)
        · obtain ⟨g1, g2, g3⟩ := gts t0 (List.mem_of_getElem? htat)
          exact ⟨g1, g2, by show t0.height + 1 ≤ _; omega⟩
      · rw [List.length_set]; exact l1
      · rw [List.length_set]; exact l7
      · rw [nds_set htat]
        omega
    · refine ⟨_, rfl, S, _, rfl, .inl (SqL.of I7.1), _, rfl, _, rfl, _, _, rfl, rfl, _, _, rfl, rfl, _, rfl, ?_⟩
      refine iteB (fun c1 => ?_) (fun c1 => ?_)
      · refine ⟨by show 3 ≤ sizeLine; omega, fun l hl => ?_⟩
        have J1 := I7.new (o := .lst [.str "many", .str "some", .str "maybe"]) hl
        have lp : l ≠ p := fun z => by obtain ⟨a, b, c, e, _⟩ := I7.box; rw [z, e] at hl; exact nomatch hl
        refine ⟨_, rfl, p, 3, m + 3, rfl, J1.box, by omega, by decide, by decide, fun kk H8 kk0 kk1 t8 => ?_⟩
        have J2 := J1.turn t8
        have hl8 : H8 l = some (.lst [.str "many", .str "some", .str "maybe"]) := by rw [t8.2 l lp]; exact upd_same
        obtain ⟨kf, hkf⟩ := fin3 kk0 kk1
        refine ⟨l, _, _, _, rfl, rfl, SqL.of hl8, hkf, _, rfl, _, rfl, S, _, _, _, rfl, rfl, SqL.of J2.1, atI_nat (j := at') hat, by show 2 ≤ sizeLine; omega, fun q1 hq1 => ?_⟩
        obtain ⟨b1, b2⟩ := J2.wrap hq1 kf hat htat
        refine ⟨_, rfl, _, rfl, S, _, _, _, rfl, rfl, b1, ixN_nat hlt, S, _, _, _, _, _, _, m + 4, _, rfl, by omega, b2, fun u hu => ?_, ?_, ?_, ?_⟩
        · rcases List.mem_or_eq_of_mem_set hu with hu | rfl
          · exact (gts u hu).up (by omega)
          · obtain ⟨g1, g2, g3⟩ := gts t0 (List.mem_of_getElem? htat)
            exact ⟨g1, g2, by show t0.height + 1 ≤ _; omega⟩
        · rw [List.length_set]; exact l1
        · rw [List.length_set]; exact l7
        · rw [nds_set htat]
          omega
      · have c2 := of_decide_eq_false c1
        have fits : at' + (2 + zz) ≤ vs.length := by omega
        refine ⟨_, rfl, _, rfl, _, rfl, S, _, rfl, SqL.of I7.1, fun qA hqA => ?_⟩
        have J1 := I7.new (o := .lst (cutV vs none (some (at' : Int)))) hqA
        refine ⟨by show 2 ≤ sizeLine; omega, fun l hl => ?_⟩
        have J2 := J1.new (o := .lst [.str "sequence", .str "choice"]) hl
        have lp : l ≠ p := fun z => by obtain ⟨a, b, c, e, _⟩ := J1.box; rw [z, e] at hl; exact nomatch hl
        refine ⟨_, rfl, p, 2, m + 3, rfl, J2.box, by omega, by decide, by decide, fun kk H8 kk0 kk1 t8 => ?_⟩
        have J3 := J2.turn t8
        have hl8 : H8 l = some (.lst [.str "sequence", .str "choice"]) := by rw [t8.2 l lp]; exact upd_same
        have Ap : qA ≠ p := fun z => by obtain ⟨a, b, c, e, _⟩ := I7.box; rw [z, e] at hqA; exact nomatch hqA
        have hA8 : H8 qA = some (.lst (cutV vs none (some (at' : Int)))) := by rw [t8.2 qA Ap]; exact ne_keep hl upd_same
        obtain ⟨kd, hkd, hkk⟩ : ∃ kd : Str, (kd = sSeq ∨ kd = sCho) ∧ atI [V.str "sequence", V.str "choice"] kk = some (.str kd) := by
          have : kk = 0 ∨ kk = 1 := by omega
          rcases this with rfl | rfl
          · exact ⟨sSeq, .inl rfl, rfl⟩
          · exact ⟨sCho, .inr rfl, rfl⟩
        refine ⟨l, _, _, _, rfl, rfl, SqL.of hl8, hkk, ?_⟩
        refine ⟨_, rfl, _, rfl, _, rfl, _, rfl, _, rfl, _, _, rfl, rfl, _, rfl, S, _, rfl, SqL.of J3.1, fun qB hqB => ⟨by show 2 ≤ sizeLine; omega, fun qT hqT => ⟨by show 1 ≤ sizeLine; omega, fun qL hqL => ?_⟩⟩⟩
        have cB : cutV vs (some (at' : Int)) (some ((at' : Int) + (2 + (zz : Int)))) = (vs.drop at').take (2 + zz) := by
          have := Gd.cut_mid (xs := vs) (i := at') (k := 2 + zz) fits
          rw [← this]
          congr 2
        have hA9 := ne_keep (u := .lst (cutV vs (some (at' : Int)) (some ((at' : Int) + (2 + (zz : Int)))))) hqB hA8
        have hA10 := ne_keep (u := .tup [.str kd, .ref qB]) hqT hA9
        have hA11 := ne_keep (u := .lst [.ref qT]) hqL hA10
        obtain ⟨J4, up, gT, gB', gBt⟩ := J3.pair (x := kd) hqB hqT (Bt := (ts.drop at').take (2 + zz)) (by rw [cB]; exact trs_take _ (trs_drop _ J3.2.1))
        have J5 := J4.new (o := .lst [.ref qT]) hqL
        refine ⟨qA, qL, _, _, rfl, rfl, hA11, upd_same, ?_, fun qC hqC => ?_⟩
        · rw [Gd.cut_to (by omega), List.length_take]
          show _ + 1 ≤ _
          omega
        have J6 := J5.new (o := .lst (cutV vs none (some (at' : Int)) ++ [.ref qT])) hqC
        refine ⟨_, rfl, _, rfl, _, rfl, _, _, rfl, rfl, _, rfl, S, _, rfl, SqL.of J6.1, fun qD hqD => ?_⟩
        have cD : cutV vs (some ((at' : Int) + (2 + (zz : Int)))) none = vs.drop (at' + (2 + zz)) := by
          have := Gd.cut_from (xs := vs) (i := at' + (2 + zz)) fits
          rw [← this]
          congr 2
        have J7 := J6.new (o := .lst (cutV vs (some ((at' : Int) + (2 + (zz : Int)))) none)) hqD
        refine ⟨qC, qD, _, _, rfl, rfl, ne_keep hqD upd_same, upd_same, ?_, fun S' hS' => ?_⟩
        · rw [Gd.cut_to (by omega), cD, List.length_append, List.length_take, List.length_drop]
          show _ + 1 + _ ≤ _
          omega
        have cA := Gd.cut_to (xs := vs) (i := at') (by omega)
        rw [cA, cD] at J7
        rw [cA, cD] at hS' ⊢
        have lts : vs.length = ts.length := lvs
        have lB : ((ts.drop at').take (2 + zz)).length = 2 + zz := by rw [List.length_take, List.length_drop]; omega
        have gB : Gts (1 + i) ((ts.drop at').take (2 + zz)) := fun u hu => gts u (List.mem_of_mem_drop (List.mem_of_mem_take hu))
        obtain ⟨t', g1, g2, g3⟩ : ∃ t' : Tr, Gt (1 + i + 1) t' ∧ nd t' = nds ((ts.drop at').take (2 + zz)) + 1 ∧ TrAt (upd (upd G qB (.lst (cutV vs (some (at' : Int)) (some ((at' : Int) + (2 + (zz : Int))))))) qT (.tup [.str kd, .ref qB])) (.ref qT) t' := by
          rcases hkd with rfl | rfl
          · exact ⟨.seq _, gB.seq (by omega) (by omega), rfl, .seq gT gB' gBt⟩
          · exact ⟨.cho _, gB.cho (by omega) (by omega), rfl, .cho gT gB' gBt⟩
        refine ⟨S', _, _, _, _, _, _, m + 4, ts.take at' ++ [t'] ++ ts.drop (at' + (2 + zz)), rfl, by omega, J7.move hS' (trs_append (trs_append ((trs_take _ I7.2.1).same up) (.cons g3 .nil)) ((trs_drop _ I7.2.1).same up)), ?_, ?_, ?_, ?_⟩
        · intro u hu
          rcases List.mem_append.mp hu with hu | hu
          · rcases List.mem_append.mp hu with hu | hu
            · exact (gts u (List.mem_of_mem_take hu)).up (by omega)
            · rw [List.mem_singleton.mp hu]
              exact g1.up (by omega)
          · exact (gts u (List.mem_of_mem_drop hu)).up (by omega)
        · rw [List.length_append, List.length_append]
          show 1 ≤ _ + 1 + _
          omega
        · rw [List.length_append, List.length_append, List.length_take, List.length_drop]
          show _ + 1 + _ ≤ 7
          omega
        · have e := nds_parts ts at' (2 + zz)
          rw [nds_app, nds_app]
          show _ + (nd t' + 0) + _ ≤ _
          omega
  · rintro _ H4 ⟨S, o4, o5, o6, o7, G, vs, m, ts, rfl, hm, I, gts, l1, l7, hnd⟩
    have i12 : d3.toNat < 12 := by omega
    have lvs := I.2.1.length
    refine ⟨_, rfl, S, _, rfl, .inl (SqL.of I.1), rfl, _, rfl, ?_⟩
    refine iteB (fun c => ?_) (fun c => ?_)
    · have c1 := of_decide_eq_true c
      have one : vs.length = 1 := by
        injection c1 with c1
        omega
      obtain ⟨v0, hv0⟩ : ∃ v0, vs[0]? = some v0 := ⟨_, List.getElem?_eq_getElem (by omega)⟩
      obtain ⟨t0, ht0, hvt⟩ := I.2.1.at hv0
      have g0 := gts t0 (List.mem_of_getElem? ht0)
      refine ⟨_, rfl, S, _, _, _, rfl, rfl, SqL.of I.1, atI_nat (j := 0) hv0, q t0 v0 H4 (g0.up (by omega)) ?_ I.2.2.2.2.2.2.2.2 (hvt.same I.2.2.1)⟩
      have h1 := nd_le ht0
      omega
    · have c1 := of_decide_eq_false c
      have two : 2 ≤ vs.length := by
        rcases Nat.lt_or_ge vs.length 2 with h | h
        · exfalso
          exact c1 (by rw [show vs.length = 1 by omega]; rfl)
        · exact h
      refine ⟨by show 2 ≤ sizeLine; omega, fun l hl => ?_⟩
      have J2 := I.new (o := .lst [.str "sequence", .str "choice"]) hl
      have lp : l ≠ p := fun z => by obtain ⟨a, b, c, e, _⟩ := I.box; rw [z, e] at hl; exact nomatch hl
      refine ⟨_, rfl, p, 2, m, rfl, J2.box, by omega, by decide, by decide, fun kk H8 kk0 kk1 t8 => ?_⟩
      have J3 := J2.turn t8
      have hl8 : H8 l = some (.lst [.str "sequence", .str "choice"]) := by rw [t8.2 l lp]; exact upd_same
      obtain ⟨kd, hkd, hkk⟩ : ∃ kd : Str, (kd = sSeq ∨ kd = sCho) ∧ atI [V.str "sequence", V.str "choice"] kk = some (.str kd) := by
        have : kk = 0 ∨ kk = 1 := by omega
        rcases this with rfl | rfl
        · exact ⟨sSeq, .inl rfl, rfl⟩
        · exact ⟨sCho, .inr rfl, rfl⟩
      refine ⟨l, _, _, _, rfl, rfl, SqL.of hl8, hkk, _, rfl, by show 2 ≤ sizeLine; omega, fun qT hqT => ?_⟩
      have k1 : (upd H8 qT (.tup [.str kd, .ref S])) qT = some (.tup [.str kd, .ref S]) := upd_same
      have k2 : (upd H8 qT (.tup [.str kd, .ref S])) S = some (.lst vs) := ne_keep hqT J3.1
      have k3 : TrsAt (upd H8 qT (.tup [.str kd, .ref S])) vs ts := (J3.2.1.same J3.2.2.1).same fun c o e => ne_keep hqT e
      have k4 : ∀ c o, c ≠ p → H c = some o → (upd H8 qT (.tup [.str kd, .ref S])) c = some o := fun c o n e => ne_keep hqT (J3.2.2.2.2.2.2.2.2 c o n e)
      rcases hkd with rfl | rfl
      · exact q (.seq ts) _ _ ((gts.seq (by omega) (by omega)).up (by omega)) (by show nds ts + 1 ≤ 60; omega) k4 (.seq k1 k2 k3)
      · exact q (.cho ts) _ _ ((gts.cho (by omega) (by omega)).up (by omega)) (by show nds ts + 1 ≤ 60; omega) k4 (.cho k1 k2 k3)
end
end KT

namespace KT
open PySem PySem.Spec PyProof.Rows L2 Gd
/-- how much a tree binds -/
def bd : Tr → Int
  | .cho _ => 0
  | .seq _ => 1
  | .empty => 1
  | .sgn _ _ => 2
  | _ => 3
theorem bd_needs (t : Tr) {p : Int} (h0 : 0 ≤ p) (h3 : p ≤ 3) : needs t p = decide (bd t < p) := by
  have two : ∀ a b : Bool, (a = true ↔ b = true) → a = b := by decide
  cases t <;> (apply two; unfold needs bd; simp <;> omega)
def spTxt (m : Nat) : Sp := fun vs H Q _ => ∃ (v : V) (t : Tr) (p : Int), vs = [v, .int p] ∧ TrAt H v t ∧ t.Wf ∧ 0 ≤ p ∧ p ≤ 3 ∧ t.height ≤ m ∧ (wrAt t p).length ≤ 100000 ∧ ∀ H', Same H H' → Q (.str (wrAt t p)) H'
theorem emp_app (x : Str) : Str.empty ++ x = x := by
  apply Gd.str_ext
  rw [Gd.app_list]
  rfl
abbrev rCS : R2 := fun x y H Q => ∃ i j, x = V.str i ∧ y = V.str j ∧ i.length + j.length ≤ sizeLine ∧ Q (V.str (i ++ j)) H
abbrev retT : TS := tRet (tIf (tTest (tOp (rI0 fun i j => V.bl (decide (i < j))) (tVar 4) (tVar 1))) (tOp rCS (tOp rCS (tC (V.str "(")) (tVar 3)) (tC (V.str ")"))) (tVar 3))
theorem fin_txt {D : Ends} {H H' : Hp} {t : Tr} {p : Int} {va vk : V} {o : Option V} (h0 : 0 ≤ p) (h3 : p ≤ 3) (hl : (wrAt t p).length ≤ 100000) (s : Same H H') (q : ∀ H', Same H H' → D.rt (.str (wrAt t p)) H') :
    retT D [some va, some (.int p), some vk, some (.str (wr0 t)), some (.int (bd t)), o] H' := by
  have z16 := sizeLine_eq
  have l0 : (wr0 t).length ≤ (wrAt t p).length := par_len _ _
  have eo : (("(" : String) : Str).length = 1 := by decide +kernel
  have ec : ((")" : String) : Str).length = 1 := by decide +kernel
  refine ⟨_, rfl, _, rfl, _, _, rfl, rfl, _, rfl, ?_⟩
  refine iteB (fun c => ?_) (fun c => ?_)
  · have ew : wrAt t p = ("(" : Str) ++ wr0 t ++ ")" := by
      unfold wrAt
      rw [bd_needs t h0 h3, c]
      show Str.empty ++ "(" ++ wr0 t ++ ")" = _
      rw [emp_app]
    refine ⟨_, rfl, _, _, rfl, rfl, ?_, _, _, rfl, rfl, ?_, ?_⟩
    · show (("(" : String) : Str).length + (wr0 t).length ≤ sizeLine
      omega
    · rw [len_app]
      show (("(" : String) : Str).length + (wr0 t).length + ((")" : String) : Str).length ≤ sizeLine
      omega
    · have := q H' s
      rw [ew] at this
      exact this
  · have ew : wrAt t p = wr0 t := by
      unfold wrAt
      rw [bd_needs t h0 h3, c]
      rfl
    refine ⟨_, rfl, ?_⟩
    have := q H' s
    rw [ew] at this
    exact this
theorem rows_txt {K : PySem.W.Frag} {m : Nat} {H : Hp} {a b : Addr} {p pl : Int} {vk : V} {kd : Str} {vs : List V} {l : List Tr} {sep : Str} {Q : VK} (ha : H a = some (.tup [.str kd, .ref b])) (hb : H b = some (.lst vs)) (hts : TrsAt H vs l) (hwl : Wfs l) (l3 : l.length ≤ 1000)
    (q1 : 0 ≤ pl) (q3 : pl ≤ 3) (hm : heights l ≤ m) (hs : sep.length ≤ 1) (hl : (Txt.join sep (wrs l pl)).length ≤ 100000) (q : ∀ H', Same H H' → Q (.str (Txt.join sep (wrs l pl))) H') :
    (tM1 (fun x xs H_1 Q => ∃ a p, ∃ ys : List Str, x = V.str a ∧ xs = [V.ref p] ∧ (SqL K H_1 p (ys.map V.str) ∨ SqT K H_1 p (ys.map V.str)) ∧ (ys.map (·.length)).sum + ys.length * a.length ≤ 16777216 ∧ Q (V.str (Txt.join a ys)) H_1)
      (tC (V.str sep)) (tLc (iList K (tOp (rIxT K) (tVar 0) (tC (V.int 1)))) (gName 5) tYes (tCallG (spTxt m) [] (fun _ => E0) (tCons (tVar 5) (tCons (tC (V.int pl)) tNil))) [5]))
      [some (.ref a), some (.int p), some vk, none, none, none] H Q := by
  refine ⟨⟨_, rfl⟩, _, rfl, a, _, _, _, rfl, rfl, SqT.of ha, atI_nat (j := 1) rfl, b, rfl, ⟨_, SqL.of hb⟩, fun D hD => ?_⟩
  have lv := hts.length
  have lw := wrs_len l pl
  have z16 := sizeLine_eq
  refine lc_list (xs := vs) (fun i H' => H' D = some (.lst (((wrs l pl).take i).map V.str)) ∧ Same H H') ⟨upd_same, fun c u h => by rw [upd_ne (ne_of_none h hD)]; exact h⟩ (fun i H' _ ⟨_, s⟩ => SqL.of (s _ _ hb)) ?_ ?_
  · rintro i x Hh hx ⟨g1, g2⟩
    obtain ⟨u, e1, e2⟩ := hts.at hx
    have hu := heights_at e1
    have wu := wrs_at (p := pl) e1
    refine ⟨wipe1 _ _ _, yes_go ?_⟩
    refine ⟨_, rfl, x, u, pl, rfl, e2.same g2, wfs_at hwl e1, q1, q3, by omega, Nat.le_trans (join_part wu) hl, fun H' s' => ⟨_, s' _ _ g1, ?_, ?_, fun c o h => ?_⟩⟩
    · rw [List.length_map, List.length_take]
      omega
    · rw [upd_same, take_snoc wu, List.map_append]
      rfl
    · rw [upd_ne (ne_of_none h hD)]
      exact s' _ _ (g2 c o h)
  rintro H' ⟨g1, g2⟩
  rw [List.take_of_length_le (by omega)] at g1
  refine ⟨sep, D, wrs l pl, rfl, rfl, .inl (SqL.of g1), ?_, q H' g2⟩
  have h1 := join_ge sep (wrs l pl)
  have h2 : (wrs l pl).length * sep.length ≤ 1000 * 1 := Nat.mul_le_mul (by omega) hs
  omega
theorem rows_par {K : PySem.W.Frag} {D : Ends} {m : Nat} {H : Hp} {a b : Addr} {p pl bi : Int} {vk : V} {kd : Str} {vs : List V} {l : List Tr} {sep : Str} (ha : H a = some (.tup [.str kd, .ref b])) (hb : H b = some (.lst vs)) (hts : TrsAt H vs l) (hwl : Wfs l) (l3 : l.length ≤ 1000)
    (q1 : 0 ≤ pl) (q3 : pl ≤ 3) (hm : heights l ≤ m) (hs : sep.length ≤ 1) (hl : (Txt.join sep (wrs l pl)).length ≤ 100000) (q : ∀ H', Same H H' → D.nx [some (.ref a), some (.int p), some vk, some (.str (Txt.join sep (wrs l pl))), some (.int bi), none] H') :
    tPar 3 4 (tCons (tM1 (fun x xs H_1 Q => ∃ a p, ∃ ys : List Str, x = V.str a ∧ xs = [V.ref p] ∧ (SqL K H_1 p (ys.map V.str) ∨ SqT K H_1 p (ys.map V.str)) ∧ (ys.map (·.length)).sum + ys.length * a.length ≤ 16777216 ∧ Q (V.str (Txt.join a ys)) H_1)
      (tC (V.str sep)) (tLc (iList K (tOp (rIxT K) (tVar 0) (tC (V.int 1)))) (gName 5) tYes (tCallG (spTxt m) [] (fun _ => E0) (tCons (tVar 5) (tCons (tC (V.int pl)) tNil))) [5])) (tCons (tC (V.int bi)) tNil))
      D [some (.ref a), some (.int p), some vk, none, none, none] H := by
  have h := rows_txt (K := K) (p := p) (vk := vk) (Q := fun x H1 => ∃ v w, [x, V.int bi] = [v, w] ∧ D.nx ((([some (V.ref a), some (V.int p), some vk, none, none, none] : L2.St).set 3 (some v)).set 4 (some w)) H1) ha hb hts hwl l3 q1 q3 hm hs hl fun H' s => ⟨_, _, rfl, q H' s⟩
  delta tPar tCons
  exact h
section
variable {P : Program} {w : World} {K : PySem.W.Frag} {mg : Str → Option Value} {base : Heap} {aS aL : Addr} {es : Array DictEntry} {n : Nat}
abbrev s_law_text : Stmt := top 48
theorem sc_law_text : FnScope ["_law_root", "_law_wanted", "_law_kind", "_law_found", "_law_binds", "_law_one"] ["_law_root", "_law_wanted"] (defScope s_law_text) := ⟨rfl, rfl, rfl, by decide +kernel, rfl, by decide +kernel, by decide +kernel⟩
theorem ok_ltext {f f1 : Addr} {fd fd1 : FuncData} {m : Nat} (F : Fun K "_law_text" "_law_text" s_law_text f fd) (T : Txt w K mg base aS aL es n)
    (D__law_text : Df P w K mg base CX0 (2 + m) "_law_text" f1 fd1 ["_law_root", "_law_wanted"] (spTxt m)) : FnG P w K mg base CX0 (2 + m + 1) f fd ["_law_root", "_law_wanted"] (spTxt (m + 1)) := by
  refine okG F sc_law_text (fun vs H Q E h => ?_) (fun cdv A outer s H vs Q E hc hr h => ?_)
  · obtain ⟨v, t, p, rfl, _⟩ := h
    rfl
  obtain ⟨v, t, p, rfl, ht, hw, p0, p3, hh, hl, q⟩ := h
  refine ⟨_, (pss_cons (ps_set (i := 2) sc_law_text.nd rfl (Or.inl rfl) (pe_ix ix_tup (pv 0) pe_int (fun _ _ => rfl)))
 (pss_cons (ps_if (pt_cmpR op_eq (pv 2) pe_str (nomark _))
  (pss_one (ps_par (i := 3) (j := 4) (by rfl) sc_law_text.nd rfl rfl (by decide) rfl rfl (pa_cons (pe_join pe_str (pe_lc (own := [("_law_one", 5)]) (g := gName 5) rfl sc_law_text.nd (pi_list (pe_ix ix_tup (pv 0) pe_int (fun _ _ => rfl))) (blkOk_by (N := ["_law_root", "_law_wanted", "_law_kind", "_law_found", "_law_binds", "_law_one"]) (sc := defScope s_law_text) (by decide +kernel)) (fun _ _ _ _ _ => pg_name (i := 5) sc_law_text.nd rfl (Or.inl rfl)) (fun _ _ _ _ _ => pts_nil) (fun _ _ _ _ _ => (pe_d D__law_text hc (hr.mono (by omega)) (by rfl) (fun _ => passN) (pa_cons (pv 5) (pa_cons pe_int pa_nil)))))) (pa_cons pe_int pa_nil)) (by rfl))) (pss_one (ps_if (pt_cmpR op_eq (pv 2) pe_str (nomark _))
  (pss_one (ps_par (i := 3) (j := 4) (by rfl) sc_law_text.nd rfl rfl (by decide) rfl rfl (pa_cons (pe_join pe_str (pe_lc (own := [("_law_one", 5)]) (g := gName 5) rfl sc_law_text.nd (pi_list (pe_ix ix_tup (pv 0) pe_int (fun _ _ => rfl))) (blkOk_by (N := ["_law_root", "_law_wanted", "_law_kind", "_law_found", "_law_binds", "_law_one"]) (sc := defScope s_law_text) (by decide +kernel)) (fun _ _ _ _ _ => pg_name (i := 5) sc_law_text.nd rfl (Or.inl rfl)) (fun _ _ _ _ _ => pts_nil) (fun _ _ _ _ _ => (pe_d D__law_text hc (hr.mono (by omega)) (by rfl) (fun _ => passN) (pa_cons (pv 5) (pa_cons pe_int pa_nil)))))) (pa_cons pe_int pa_nil)) (by rfl))) (pss_one (ps_if (pt_cmpR op_eq (pv 2) pe_str (nomark _))
  (pss_one (ps_asg (pe_tup (pa_cons pe_str (pa_cons pe_int pa_nil))) (pg_tup (by rfl) (pgs_cons (pg_name (i := 3) sc_law_text.nd rfl (Or.inl rfl)) (pgs_cons (pg_name (i := 4) sc_law_text.nd rfl (Or.inl rfl)) pgs_nil))))) (pss_one (ps_if (pt_cmpR op_in_seq (pv 2) (pe_tup (pa_cons pe_str (pa_cons pe_str (pa_cons pe_str pa_nil)))) (by rfl))
  (pss_one (ps_par (i := 3) (j := 4) (by rfl) sc_law_text.nd rfl rfl (by decide) rfl rfl (pa_cons (pe_op op_add_str (pe_d D__law_text hc (hr.mono (by omega)) (by rfl) (fun _ => passN) (pa_cons (pe_ix ix_tup (pv 0) pe_int (fun _ _ => rfl)) (pa_cons pe_int pa_nil))) (pe_dget (hu_of hr) (pe_disp (pps_cons pe_str pe_str (pps_cons pe_str pe_str (pps_cons pe_str pe_str pps_nil))) (by rfl) (by rfl) (fun z => by cases z) (by decide)) (pv 2) (fun _ _ => rfl))) (pa_cons pe_int pa_nil)) (by rfl))) (pss_cons (ps_par (i := 3) (j := 4) (by rfl) sc_law_text.nd rfl rfl (by decide) rfl rfl (pa_cons (pe_ifExp (pt_cmpR op_eq (pv 2) pe_str (nomark _)) pe_str (pe_callTy SkE.call_str_str (by rfl) T.z_str (by decide +kernel) (pa_cons (pe_ix ix_tup (pv 0) pe_int (fun _ _ => rfl)) pa_nil))) (pa_cons pe_int pa_nil)) (by rfl))
 (pss_one (ps_set (i := 3) sc_law_text.nd rfl (Or.inl rfl) (pe_ifExp (pt_cmpR op_eq (pv 2) pe_str (nomark _)) (pe_op op_add_str (pe_op op_add_str pe_str (pv 3)) pe_str) (pv 3))))))))))))
 (pss_one (ps_ret (pe_ifExp (pt_cmpR op_lt (pv 4) (pv 1) (nomark _)) (pe_op op_add_str (pe_op op_add_str pe_str (pv 3)) pe_str) (pv 3)))))), ?_⟩
  obtain ⟨a, xs, rfl, ha⟩ := ht.tup
  have hq := SqT.of (K := K) ha
  have z16 := sizeLine_eq
  refine ⟨_, rfl, a, _, _, _, rfl, rfl, hq, atI_nat (j := 0) rfl, ?_⟩
  refine ⟨_, rfl, rfl, _, rfl, ?_⟩
  have lw : (wr0 t).length ≤ (wrAt t p).length := par_len _ _
  cases ht with
  | @cho _ b vs l h1 h2 h3 =>
    refine iteB (fun c => ?_) (fun c => absurd (show decide (V.str sCho = V.str "choice") = false from c) (by decide +kernel))
    refine rows_par (m := m) h1 h2 h3 hw.2.2 hw.2.1 (by decide) (by decide) (by have : (Tr.cho l).height = heights l + 1 := rfl; omega) (by decide +kernel) (show (wr0 (.cho l)).length ≤ 100000 by omega) fun H' s => ?_
    exact fin_txt (t := .cho l) p0 p3 hl s q
  | @seq _ b vs l h1 h2 h3 =>
    refine iteB (fun c => absurd (show decide (V.str sSeq = V.str "choice") = true from c) (by decide +kernel)) (fun c => ?_)
    refine ⟨_, rfl, rfl, _, rfl, ?_⟩
    refine iteB (fun c => ?_) (fun c => absurd (show decide (V.str sSeq = V.str "sequence") = false from c) (by decide +kernel))
    refine rows_par (m := m) h1 h2 h3 hw.2.2 hw.2.1 (by decide) (by decide) (by have : (Tr.seq l).height = heights l + 1 := rfl; omega) (by decide +kernel) (show (wr0 (.seq l)).length ≤ 100000 by omega) fun H' s => ?_
    exact fin_txt (t := .seq l) p0 p3 hl s q
  | empty h =>
    refine iteB (fun c => absurd (show decide (V.str sEmpty = V.str "choice") = true from c) (by decide +kernel)) (fun c => ?_)
    refine ⟨_, rfl, rfl, _, rfl, ?_⟩
    refine iteB (fun c => absurd (show decide (V.str sEmpty = V.str "sequence") = true from c) (by decide +kernel)) (fun c => ?_)
    refine ⟨_, rfl, rfl, _, rfl, ?_⟩
    refine iteB (fun c => ?_) (fun c => absurd (show decide (V.str sEmpty = V.str "empty") = false from c) (by decide +kernel))
    refine ⟨by show 2 ≤ sizeLine; omega, fun q1 hq1 => ?_⟩
    refine ⟨q1, [.str "", .int 1], rfl, SqT.of upd_same, rfl, _, _, rfl, _, _, rfl, rfl, ?_⟩
    exact fin_txt (t := .empty) p0 p3 hl (fun c o e => ne_keep hq1 e) q
  | @sgn _ k y u h g =>
    have no : ∀ k : _root_.Fin 3, decide (V.str (sSgn k) = V.str "choice") = false ∧ decide (V.str (sSgn k) = V.str "sequence") = false ∧ decide (V.str (sSgn k) = V.str "empty") = false := by decide +kernel
    obtain ⟨n1, n2, n3⟩ := no k
    refine iteB (fun c => absurd (c.symm.trans n1) (by decide)) (fun c => ?_)
    refine ⟨_, rfl, rfl, _, rfl, ?_⟩
    refine iteB (fun c => absurd (c.symm.trans n2) (by decide)) (fun c => ?_)
    refine ⟨_, rfl, rfl, _, rfl, ?_⟩
    refine iteB (fun c => absurd (c.symm.trans n3) (by decide)) (fun c => ?_)
    have isin : ∀ k : _root_.Fin 3, inV (.str (sSgn k)) [V.str "many", V.str "some", V.str "maybe"] = true := by decide +kernel
    refine ⟨_, rfl, by show 3 ≤ sizeLine; omega, fun q1 hq1 => ⟨q1, _, rfl, .inr (SqT.of upd_same), rfl, rfl, _, rfl, ?_⟩⟩
    refine iteB (fun _ => ?_) (fun c => absurd ((isin k).symm.trans (show inV (V.str (sSgn k)) [V.str "many", V.str "some", V.str "maybe"] = false from c)) (by decide))
    have s1 : Same H (upd H q1 (.tup [.str "many", .str "some", .str "maybe"])) := fun c o e => ne_keep hq1 e
    have hk : (Tr.sgn k u).height = u.height + 1 := rfl
    have wk : wr0 (.sgn k u) = wrAt u 3 ++ sgTx k := rfl
    have lu : (wrAt u 3).length ≤ (wr0 (.sgn k u)).length := by rw [wk, len_app]; omega
    refine ⟨_, rfl, a, _, _, _, rfl, rfl, SqT.of (s1 _ _ h), atI_nat (j := 1) rfl, y, u, 3, rfl, g.same s1, hw, by decide, by decide, by omega, by omega, fun H2 s2 => ?_⟩
    intro d hd
    refine ⟨upd_same, [(Sum.inr "many", .str "*"), (Sum.inr "some", .str "+"), (Sum.inr "maybe", .str "?")], rfl, by decide, ?_⟩
    have look : ∀ k : _root_.Fin 3, valV (mergeK [] [(Sum.inr ("many" : Str), V.str "*"), (Sum.inr ("some" : Str), V.str "+"), (Sum.inr ("maybe" : Str), V.str "?")]) (Sum.inr (sSgn k)) = some (.str (sgTx k)) := by decide +kernel
    have short : ∀ k : _root_.Fin 3, (sgTx k).length = 1 := by decide +kernel
    have s3 : Same H (upd (upd H2 d (.dK [])) d (.dK (mergeK [] [(Sum.inr ("many" : Str), V.str "*"), (Sum.inr ("some" : Str), V.str "+"), (Sum.inr ("maybe" : Str), V.str "?")]))) := by
      rw [upd_upd]
      exact fun c o e => ne_keep hd (s2 _ _ (s1 _ _ e))
    refine ⟨_, rfl, d, .str (sgTx k), rfl, .inl ⟨_, Sum.inr (sSgn k), .inl upd_same, rfl, (look k).symm⟩, _, _, rfl, rfl, ?_, _, _, rfl, ?_⟩
    · rw [short k]
      omega
    · exact fin_txt (t := .sgn k u) p0 p3 hl s3 q
  | @letter _ z h =>
    refine iteB (fun c => absurd (show decide (V.str sLetter = V.str "choice") = true from c) (by decide +kernel)) (fun c => ?_)
    refine ⟨_, rfl, rfl, _, rfl, ?_⟩
    refine iteB (fun c => absurd (show decide (V.str sLetter = V.str "sequence") = true from c) (by decide +kernel)) (fun c => ?_)
    refine ⟨_, rfl, rfl, _, rfl, ?_⟩
    refine iteB (fun c => absurd (show decide (V.str sLetter = V.str "empty") = true from c) (by decide +kernel)) (fun c => ?_)
    refine ⟨_, rfl, by show 3 ≤ sizeLine; omega, fun q1 hq1 => ⟨q1, _, rfl, .inr (SqT.of upd_same), rfl, rfl, _, rfl, ?_⟩⟩
    refine iteB (fun c => absurd (show inV (V.str sLetter) [V.str "many", V.str "some", V.str "maybe"] = true from c) (by decide +kernel)) (fun _ => ?_)
    have s1 : Same H (upd H q1 (.tup [.str "many", .str "some", .str "maybe"])) := fun c o e => ne_keep hq1 e
    refine ⟨_, rfl, rfl, _, rfl, ?_⟩
    refine iteB (fun c => absurd (show decide (V.str sLetter = V.str "none") = true from c) (by decide +kernel)) (fun c => ?_)
    refine ⟨_, rfl, a, _, _, _, rfl, rfl, SqT.of (s1 _ _ h), atI_nat (j := 1) rfl, _, rfl, _, _, rfl, ?_⟩
    refine ⟨_, rfl, rfl, _, rfl, ?_⟩
    refine iteB (fun c => absurd (show decide (V.str sLetter = V.str "name") = true from c) (by decide +kernel)) (fun c => ?_)
    refine ⟨_, rfl, ?_⟩
    exact fin_txt (t := .letter z) p0 p3 hl s1 q
  | @name _ z h =>
    refine iteB (fun c => absurd (show decide (V.str sName = V.str "choice") = true from c) (by decide +kernel)) (fun c => ?_)
    refine ⟨_, rfl, rfl, _, rfl, ?_⟩
    refine iteB (fun c => absurd (show decide (V.str sName = V.str "sequence") = true from c) (by decide +kernel)) (fun c => ?_)
    refine ⟨_, rfl, rfl, _, rfl, ?_⟩
    refine iteB (fun c => absurd (show decide (V.str sName = V.str "empty") = true from c) (by decide +kernel)) (fun c => ?_)
    refine ⟨_, rfl, by show 3 ≤ sizeLine; omega, fun q1 hq1 => ⟨q1, _, rfl, .inr (SqT.of upd_same), rfl, rfl, _, rfl, ?_⟩⟩
    refine iteB (fun c => absurd (show inV (V.str sName) [V.str "many", V.str "some", V.str "maybe"] = true from c) (by decide +kernel)) (fun _ => ?_)
    have s1 : Same H (upd H q1 (.tup [.str "many", .str "some", .str "maybe"])) := fun c o e => ne_keep hq1 e
    refine ⟨_, rfl, rfl, _, rfl, ?_⟩
    refine iteB (fun c => absurd (show decide (V.str sName = V.str "none") = true from c) (by decide +kernel)) (fun c => ?_)
    refine ⟨_, rfl, a, _, _, _, rfl, rfl, SqT.of (s1 _ _ h), atI_nat (j := 1) rfl, _, rfl, _, _, rfl, ?_⟩
    refine ⟨_, rfl, rfl, _, rfl, ?_⟩
    refine iteB (fun c => ?_) (fun c => absurd (show decide (V.str sName = V.str "name") = false from c) (by decide +kernel))
    have ew : wr0 (.name z) = ("<" : Str) ++ z ++ ">" := by
      show Str.empty ++ "<" ++ z ++ ">" = _
      rw [emp_app]
    have e1 : (("<" : String) : Str).length = 1 := by decide +kernel
    have e2 : ((">" : String) : Str).length = 1 := by decide +kernel
    have z8 := hw.1.len
    refine ⟨_, rfl, _, _, rfl, rfl, ?_, _, _, rfl, rfl, ?_, ?_⟩
    · show (("<" : String) : Str).length + z.length ≤ sizeLine
      omega
    · rw [len_app]
      show (("<" : String) : Str).length + z.length + ((">" : String) : Str).length ≤ sizeLine
      omega
    have := fin_txt (va := .ref a) (vk := .str sName) (o := none) (D := { nx := fun _ H' => Q V.non H', rt := Q }) (t := .name z) p0 p3 hl s1 q
    rw [ew] at this
    exact this
  | none h =>
    refine iteB (fun c => absurd (show decide (V.str sNone = V.str "choice") = true from c) (by decide +kernel)) (fun c => ?_)
    refine ⟨_, rfl, rfl, _, rfl, ?_⟩
    refine iteB (fun c => absurd (show decide (V.str sNone = V.str "sequence") = true from c) (by decide +kernel)) (fun c => ?_)
    refine ⟨_, rfl, rfl, _, rfl, ?_⟩
    refine iteB (fun c => absurd (show decide (V.str sNone = V.str "empty") = true from c) (by decide +kernel)) (fun c => ?_)
    refine ⟨_, rfl, by show 3 ≤ sizeLine; omega, fun q1 hq1 => ⟨q1, _, rfl, .inr (SqT.of upd_same), rfl, rfl, _, rfl, ?_⟩⟩
    refine iteB (fun c => absurd (show inV (V.str sNone) [V.str "many", V.str "some", V.str "maybe"] = true from c) (by decide +kernel)) (fun _ => ?_)
    have s1 : Same H (upd H q1 (.tup [.str "many", .str "some", .str "maybe"])) := fun c o e => ne_keep hq1 e
    refine ⟨_, rfl, rfl, _, rfl, ?_⟩
    refine iteB (fun c => ?_) (fun c => absurd (show decide (V.str sNone = V.str "none") = false from c) (by decide +kernel))
    refine ⟨_, _, rfl, ?_⟩
    refine ⟨_, rfl, rfl, _, rfl, ?_⟩
    refine iteB (fun c => absurd (show decide (V.str sNone = V.str "name") = true from c) (by decide +kernel)) (fun c => ?_)
    refine ⟨_, rfl, ?_⟩
    exact fin_txt (t := .none) p0 p3 hl s1 q
end
end KT

/-! own rules: behind a written text a token is out -/
namespace Gd
open PySem PySem.Spec PyProof.Rows L2
variable {X : Cx}
def Po (X : Cx) (e : Expr) (t : TE) : Prop := ∀ (pins : List (Addr × Obj)) (s : Shared) (σ : L2.St) (H : Hp) (Q : VK), Inv X pins σ H s → t σ H Q → wpAny (model X.prog X.w) X.A (eval e X.env) (fun v z => 1 ≤ z.toks ∧ EP X pins σ Q v z) X.xe s
def PoA (X : Cx) (es : List Expr) (t : TA) : Prop := ∀ (pos : Pos) (pins : List (Addr × Obj)) (s : Shared) (σ : L2.St) (H : Hp) (Q : List V → Hp → Prop), Inv X pins σ H s → t σ H Q → wpAny (model X.prog X.w) X.A (spliced (backTo pos (starEach es X.env))) (fun v z => 1 ≤ z.toks ∧ AP X pins σ Q v z) X.xe s
theorem po_str {c : Str} {j : Nat} {pos : Pos} : Po X (.Constant (.str c) j pos) (tC (.str c)) := fun pins s σ H Q I h =>
  Calls.Constant_str ⟨by show 1 ≤ s.toks + 1; omega, .str c, H, I.tok _, ⟨s.toks, rfl⟩, h⟩
theorem poa_now {e : Expr} {es : List Expr} {te : TE} {t : TA} (a : Po X e te) (b : PA X es t) (hs : starEach (e :: es) X.env = (false, eval e X.env) :: starEach es X.env := by rfl) : PoA X (e :: es) (tCons te t) := by
  intro pos pins s σ H Q I h
  rw [hs]
  show wpAny _ X.A (spliced ((false, eval e X.env) :: backTo pos (starEach es X.env))) _ _ s
  apply Calls.spliced_cons
  refine thn (a pins s σ H _ I h) fun u z q => ?_
  obtain ⟨hz, x, H1, I1, r1, q1⟩ := q
  refine thn (wpAny_mono (PySem.wpAny_toks (b.run pos pins z σ H1 _ I1 q1)) (fun _ _ k => k) fun _ _ k => k.2) fun us y k => ?_
  obtain ⟨hy, xs, H2, I2, r2, q2⟩ := k
  exact ⟨Nat.le_trans hz hy, x :: xs, H2, I2, .cons r1 r2, q2⟩
theorem poa_late {e : Expr} {es : List Expr} {te : TE} {t : TA} (a : PE X e te) (b : PoA X es t) (hs : starEach (e :: es) X.env = (false, eval e X.env) :: starEach es X.env := by rfl) : PoA X (e :: es) (tCons te t) := by
  intro pos pins s σ H Q I h
  rw [hs]
  show wpAny _ X.A (spliced ((false, eval e X.env) :: backTo pos (starEach es X.env))) _ _ s
  apply Calls.spliced_cons
  refine thn (a.run pins s σ H _ I h) fun u z q => ?_
  obtain ⟨x, H1, I1, r1, q1⟩ := q
  refine thn (b pos pins z σ H1 _ I1 q1) fun us y k => ?_
  obtain ⟨hy, xs, H2, I2, r2, q2⟩ := k
  exact ⟨hy, x :: xs, H2, I2, .cons r1 r2, q2⟩
theorem po_tup {es : List Expr} {t : TA} {x1} {pos : Pos} (a : PoA X es t) : Po X (.Tuple es x1 pos) (tTup t) := by
  intro pins s σ H Q I h
  apply wpAny_Tuple_spliced
  refine thn (a pos pins s σ H _ I h) fun us z q => ?_
  obtain ⟨hz, xs, H1, I1, r, few, q⟩ := q
  have none1 : H1 z.heap.objs.size = none := I1.hok.fresh (Nat.le_refl _)
  refine ⟨by rw [← r.length]; exact few, hz, .ref z.heap.objs.size, upd H1 z.heap.objs.size (.tup xs), I1.laid (t' := z.toks) (o := .tup xs) (fun c o e => Heap.get?_push_of_some _ e) (Nat.le_refl _) ?_, rfl, q _ none1⟩
  exact ⟨few, us, r, _, Heap.get?_push_size _ rfl, rfl, _, rfl⟩
theorem pss_out {tg e : Expr} {te : TE} {g : TG} {rest : List Stmt} {u : TS} {pos : Pos} (a : Po X e te) (b : PG X tg g) (c : PSsT X rest u) (hs : swapsWithSole [tg] e pos.line X.env = pure false := by rfl) (hw : swappedStores [tg] e X.env = pure none := by rfl)
    (h1 : (assignEach [tg] X.env).map (·.2) = [assign tg X.env] := by rfl) : PSs X (.Assign [tg] e pos :: rest) (tSeq (tAsg te g) u) := by
  refine ⟨fun pins s σ H D I h => ?_⟩
  apply wpAny_execs_cons
  refine wpAny_Assign_stores (thn (a pins s σ H _ I h) fun v z q => ?_) hs hw
  obtain ⟨hz, x, H1, I1, r1, q1⟩ := q
  rw [h1]
  refine thn (wpAny_mono (PySem.wpAny_toks (b.run pins z σ H1 x v _ I1 r1 q1)) (fun _ _ k => k) fun _ _ k => k.2) fun _ y k => ?_
  obtain ⟨hy, σ2, H2, I2, q2⟩ := k
  exact c pins y σ2 H2 D (Nat.le_trans hz hy) I2 q2
theorem pst_set {i : Nat} {x : Str} {e : Expr} {te : TE} {pos pos' : Pos} (hN : X.N.Nodup) (hi : X.N[i]? = some x) (hx : Loc X.env.scope x) (a : PET X e te) (hs : swapsWith e (some (.Name x pos')) pos.line X.env = pure false := by rfl) (hf : X.fn x = true ∨ X.env.scope.names.lookup x = some .local := by first | exact .inl rfl | exact .inr rfl | assumption) :
    PST X (.Assign [.Name x pos'] e pos) (tAsg te (gName i)) := by
  intro pins s σ H D h0 I h
  refine wpAny_Assign_Name (thn (a pins s σ H _ h0 I h) fun v z q => ?_) hs
  obtain ⟨y, H1, I1, r1, q1⟩ := q
  exact store_ok I1 hN hi hx r1 (fun _ I2 => ⟨_, H1, I2, q1⟩) hf
theorem pet_d {CX : CXT} {k : Nat} {x : Str} {f : Addr} {fd : FuncData} {ps : List Str} {sp : Sp} {E : L2.St → XK} {e : Expr} {es : List Expr} {t : TA} {p pos : Pos} (D : Df X.prog X.w X.K X.mg X.base CX k x f fd ps sp) (hc : Clean X.A) (hr : Room k X.A) (hg : Gl X x) (hx : ∀ σ, PassesAt CX X σ (E σ)) (ha : PAT X (e :: es) t) (hdb : (x == ("__debug__" : Str)) = false := by decide)
    (he : starEach (e :: es) X.env = (false, eval e X.env) :: starEach es X.env := by rfl) (hpl : (backTo pos (starEach es X.env)).any (·.1) = false := by rfl) : PET X (.Call (.Name x p) (e :: es) [] pos) (tCallG sp [] E t) := by
  intro pins s σ H Q h0 I h
  refine wpAny_Call_Name_kw (ld_glob I hg D.m ?_ hdb)
  refine PySem.W.callWith_K (h₀ := X.base) I.ok.mod.kin D.kp (thn (ha pos pins s σ H _ h0 I h) fun us z q => ?_) he hpl
  obtain ⟨vs, H1, I1, r, q⟩ := q
  exact ⟨I1.kIn, runC D.G hc hr D.b .nil (hx σ) I1 r q⟩
end Gd

namespace KT
open PySem L2 Gd
mutual
/-- a tree as data -/
def dT : Tr → PyData
  | .none => .tuple [.str sNone]
  | .empty => .tuple [.str sEmpty]
  | .letter c => .tuple [.str sLetter, .str ⟨#[c]⟩]
  | .name x => .tuple [.str sName, .str x]
  | .sgn k t => .tuple [.str (sSgn k), dT t]
  | .seq l => .tuple [.str sSeq, .list (dTs l)]
  | .cho l => .tuple [.str sCho, .list (dTs l)]
def dTs : List Tr → List PyData
  | [] => []
  | t :: l => dT t :: dTs l
end
section
variable {K : PySem.W.Frag} {H : Hp}
mutual
theorem da_tree : ∀ {v : V} {t : Tr}, TrAt H v t → Da K H v (dT t)
  | _, _, .none h => by rw [dT]; exact .tup (SqT.of h) (.cons (.str _) .nil)
  | _, _, .empty h => by rw [dT]; exact .tup (SqT.of h) (.cons (.str _) .nil)
  | _, _, .letter h => by rw [dT]; exact .tup (SqT.of h) (.cons (.str _) (.cons (.str _) .nil))
  | _, _, .name h => by rw [dT]; exact .tup (SqT.of h) (.cons (.str _) (.cons (.str _) .nil))
  | _, _, .sgn h t => by rw [dT]; exact .tup (SqT.of h) (.cons (.str _) (.cons (da_tree t) .nil))
  | _, _, .seq h g t => by rw [dT]; exact .tup (SqT.of h) (.cons (.str _) (.cons (.lst g (da_trees t)) .nil))
  | _, _, .cho h g t => by rw [dT]; exact .tup (SqT.of h) (.cons (.str _) (.cons (.lst g (da_trees t)) .nil))
theorem da_trees : ∀ {vs : List V} {ts : List Tr}, TrsAt H vs ts → DaL K H vs (dTs ts)
  | _, _, .nil => by rw [dTs]; exact .nil
  | _, _, .cons h r => by rw [dTs]; exact .cons (da_tree h) (da_trees r)
end
end
theorem low_lt {c : Nat} (h : low c = true) : c < 128 := by
  unfold low at h
  rw [Bool.and_eq_true, decide_eq_true_eq, decide_eq_true_eq] at h
  omega
theorem k_none : Ok1 (.str sNone) ∧ sNone.length = 4 := by
  refine ⟨?_, by decide +kernel⟩
  show ∀ c ∈ sNone.cps.toList, c < 16 ^ 8
  decide +kernel
theorem k_empty : Ok1 (.str sEmpty) ∧ sEmpty.length = 5 := by
  refine ⟨?_, by decide +kernel⟩
  show ∀ c ∈ sEmpty.cps.toList, c < 16 ^ 8
  decide +kernel
theorem k_letter : Ok1 (.str sLetter) ∧ sLetter.length = 6 := by
  refine ⟨?_, by decide +kernel⟩
  show ∀ c ∈ sLetter.cps.toList, c < 16 ^ 8
  decide +kernel
theorem k_name : Ok1 (.str sName) ∧ sName.length = 4 := by
  refine ⟨?_, by decide +kernel⟩
  show ∀ c ∈ sName.cps.toList, c < 16 ^ 8
  decide +kernel
theorem k_seq : Ok1 (.str sSeq) ∧ sSeq.length = 8 := by
  refine ⟨?_, by decide +kernel⟩
  show ∀ c ∈ sSeq.cps.toList, c < 16 ^ 8
  decide +kernel
theorem k_cho : Ok1 (.str sCho) ∧ sCho.length = 6 := by
  refine ⟨?_, by decide +kernel⟩
  show ∀ c ∈ sCho.cps.toList, c < 16 ^ 8
  decide +kernel
theorem k_sgn (k : _root_.Fin 3) : Ok1 (.str (sSgn k)) ∧ (sSgn k).length ≤ 5 := by
  have h1 : ∀ k : _root_.Fin 3, ∀ c ∈ (sSgn k).cps.toList, c < 16 ^ 8 := by decide +kernel
  have h2 : ∀ k : _root_.Fin 3, (sSgn k).length ≤ 5 := by decide +kernel
  exact ⟨h1 k, h2 k⟩
/-- one word alone -/
theorem one_ok {x : Str} (h : Ok1 (.str x)) (hl : x.length ≤ 6) : Ok1 (.tuple [.str x]) ∧ wid (.tuple [.str x]) + 2 ≤ 200 ∧ (PyData.tuple [.str x]).depth ≤ 1 := by
  refine ⟨⟨h, trivial⟩, ?_, ?_⟩
  · show 10 * x.length + 2 + 2 + 0 + 3 + 2 ≤ 200
    omega
  · show max 0 0 + 1 ≤ 1
    decide
/-- a word and data -/
theorem two_ok {x : Str} {d : PyData} {n m : Nat} (h : Ok1 (.str x)) (hl : x.length ≤ 8) (g1 : Ok1 d) (g2 : wid d + 2 ≤ n) (g3 : d.depth ≤ m) : Ok1 (.tuple [.str x, d]) ∧ wid (.tuple [.str x, d]) + 2 ≤ n + 100 ∧ (PyData.tuple [.str x, d]).depth ≤ m + 1 := by
  refine ⟨⟨h, g1, trivial⟩, ?_, ?_⟩
  · show 10 * x.length + 2 + 2 + (wid d + 2 + 0) + 3 + 2 ≤ n + 100
    omega
  · show max 0 (max d.depth 0) + 1 ≤ m + 1
    omega
mutual
theorem dT_ok : ∀ t : Tr, t.Wf → Ok1 (dT t) ∧ wid (dT t) + 2 ≤ 200 * nd t ∧ (dT t).depth ≤ 2 * t.height
  | .none, _ => by
    obtain ⟨a, b, c⟩ := one_ok k_none.1 (by rw [k_none.2]; decide)
    rw [dT]
    exact ⟨a, b, Nat.le_trans c (by decide)⟩
  | .empty, _ => by
    obtain ⟨a, b, c⟩ := one_ok k_empty.1 (by rw [k_empty.2]; decide)
    rw [dT]
    exact ⟨a, b, Nat.le_trans c (by decide)⟩
  | .letter c, h => by
    have hc := low_lt h
    obtain ⟨a, b, e⟩ := two_ok (x := sLetter) (d := .str ⟨#[c]⟩) (n := 20) (m := 0) k_letter.1 (by rw [k_letter.2]; decide) (fun z hz => by
      have : z = c := by simpa using hz
      omega) (by show 10 * 1 + 2 + 2 ≤ 20; decide) (Nat.le_refl _)
    rw [dT]
    exact ⟨a, Nat.le_trans b (by show 120 ≤ 200 * 1; decide), Nat.le_trans e (by show 0 + 1 ≤ 2 * 1; decide)⟩
  | .name x, h => by
    have hx := h.1.len
    obtain ⟨a, b, e⟩ := two_ok (x := sName) (d := .str x) (n := 84) (m := 0) k_name.1 (by rw [k_name.2]; decide) (fun z hz => by
      have := h.1.asc z hz
      omega) (by show 10 * x.length + 2 + 2 ≤ 84; omega) (Nat.le_refl _)
    rw [dT]
    exact ⟨a, Nat.le_trans b (by show 184 ≤ 200 * 1; decide), Nat.le_trans e (by show 0 + 1 ≤ 2 * 1; decide)⟩
  | .sgn k t, h => by
    obtain ⟨a, b, c⟩ := dT_ok t h
    obtain ⟨p, q, r⟩ := two_ok (k_sgn k).1 (Nat.le_trans (k_sgn k).2 (by decide)) a b c
    rw [dT]
    exact ⟨p, Nat.le_trans q (by show 200 * nd t + 100 ≤ 200 * (nd t + 1); omega), Nat.le_trans r (by show 2 * t.height + 1 ≤ 2 * (t.height + 1); omega)⟩
  | .seq l, h => by
    obtain ⟨a, b, c⟩ := dTs_ok l h.2.2
    obtain ⟨p, q, r⟩ := two_ok (d := .list (dTs l)) (n := 200 * nds l + 4) (m := 2 * heights l + 1) k_seq.1 (by rw [k_seq.2]; decide) a (by show widL (dTs l) + 2 + 2 ≤ _; omega) (by show PyData.depthAll (dTs l) + 1 ≤ _; omega)
    rw [dT]
    exact ⟨p, Nat.le_trans q (by show 200 * nds l + 4 + 100 ≤ 200 * (nds l + 1); omega), Nat.le_trans r (by show 2 * heights l + 1 + 1 ≤ 2 * (heights l + 1); omega)⟩
  | .cho l, h => by
    obtain ⟨a, b, c⟩ := dTs_ok l h.2.2
    obtain ⟨p, q, r⟩ := two_ok (d := .list (dTs l)) (n := 200 * nds l + 4) (m := 2 * heights l + 1) k_cho.1 (by rw [k_cho.2]; decide) a (by show widL (dTs l) + 2 + 2 ≤ _; omega) (by show PyData.depthAll (dTs l) + 1 ≤ _; omega)
    rw [dT]
    exact ⟨p, Nat.le_trans q (by show 200 * nds l + 4 + 100 ≤ 200 * (nds l + 1); omega), Nat.le_trans r (by show 2 * heights l + 1 + 1 ≤ 2 * (heights l + 1); omega)⟩
theorem dTs_ok : ∀ l : List Tr, Wfs l → OkL (dTs l) ∧ widL (dTs l) ≤ 200 * nds l ∧ PyData.depthAll (dTs l) ≤ 2 * heights l
  | [], _ => by rw [dTs]; exact ⟨trivial, Nat.zero_le _, Nat.zero_le _⟩
  | t :: l, h => by
    obtain ⟨a, b, c⟩ := dT_ok t h.1
    obtain ⟨p, q, r⟩ := dTs_ok l h.2
    rw [dTs]
    refine ⟨⟨a, p⟩, ?_, ?_⟩
    · show wid (dT t) + 2 + widL (dTs l) ≤ 200 * (nd t + nds l)
      omega
    · show max (dT t).depth (PyData.depthAll (dTs l)) ≤ 2 * max t.height (heights l)
      omega
end
/-! ### the name's tree -/
def tbx : Str → Option Tr := fun x => if x = "x" then some (.letter 99) else none
def sub1 : Tk → Tk
  | .nm _ => .ch 99
  | .ch c => .ch c
theorem needs_rep {t : Tr} (h : ab t) (p : Int) : needs (rep tbx t) p = needs t p := by
  cases t with
  | name x =>
    have e : x = "x" := h
    subst e
    rfl
  | _ => rfl
theorem parK_map (b : Bool) (l : List Tk) : (parK b l).map sub1 = parK b (l.map sub1) := by
  cases b with
  | false => rfl
  | true =>
    show Tk.ch 40 :: (l ++ [Tk.ch 41]).map sub1 = Tk.ch 40 :: (l.map sub1 ++ [.ch 41])
    rw [List.map_append]
    rfl
mutual
theorem tok_rep : ∀ t : Tr, ab t → tok0 (rep tbx t) = (tok0 t).map sub1
  | .none, _ => rfl
  | .empty, _ => by
    show tok0 .empty = (tok0 .empty).map sub1
    rw [tok0]
    rfl
  | .letter c, _ => by
    show tok0 (.letter c) = (tok0 (.letter c)).map sub1
    rw [tok0]
    rfl
  | .name x, h => by
    have e : x = "x" := h
    subst e
    show tok0 (.letter 99) = (tok0 (.name "x")).map sub1
    rw [tok0, tok0]
    rfl
  | .sgn k u, h => by
    show tok0 (.sgn k (rep tbx u)) = _
    rw [tok0, tok0, List.map_append, parK_map, needs_rep (t := u) h, tok_rep u h]
    rfl
  | .seq l, h => by
    show tok0 (.seq (reps tbx l)) = _
    rw [tok0, tok0, toks_rep l h]
  | .cho l, h => by
    show tok0 (.cho (reps tbx l)) = _
    rw [tok0, tok0, tokb_rep l h, List.map_drop]
theorem toks_rep : ∀ l : List Tr, abs l → toksS (reps tbx l) = (toksS l).map sub1
  | [], _ => by
    show toksS [] = (toksS []).map sub1
    rw [toksS]
    rfl
  | t :: l, h => by
    show toksS (rep tbx t :: reps tbx l) = _
    rw [toksS, toksS, List.map_append, parK_map, needs_rep h.1, tok_rep t h.1, toks_rep l h.2]
theorem tokb_rep : ∀ l : List Tr, abs l → toksB (reps tbx l) = (toksB l).map sub1
  | [], _ => by
    show toksB [] = (toksB []).map sub1
    rw [toksB]
    rfl
  | t :: l, h => by
    show toksB (rep tbx t :: reps tbx l) = _
    rw [toksB, toksB, List.map_cons, List.map_append, parK_map, needs_rep h.1, tok_rep t h.1, tokb_rep l h.2]
    rfl
end

/-- the marks of the law's trees -/
def TokOk : Tk → Prop
  | .ch c => c ≠ 60
  | .nm x => x = "x"
theorem parK_ok {b : Bool} {l : List Tk} (h : ∀ k ∈ l, TokOk k) : ∀ k ∈ parK b l, TokOk k := by
  cases b with
  | false => exact h
  | true =>
    intro k hk
    rcases List.mem_cons.mp hk with rfl | hk
    · exact (by decide : (40 : Nat) ≠ 60)
    · rcases List.mem_append.mp hk with hk | hk
      · exact h k hk
      · rw [List.mem_singleton.mp hk]
        exact (by decide : (41 : Nat) ≠ 60)
theorem app_ok {l r : List Tk} (h : ∀ k ∈ l, TokOk k) (g : ∀ k ∈ r, TokOk k) : ∀ k ∈ l ++ r, TokOk k := fun k hk => (List.mem_append.mp hk).elim (h k) (g k)
mutual
theorem tok_ok : ∀ t : Tr, ab t → ∀ k ∈ tok0 t, TokOk k
  | .none, _ => by
    rw [tok0]
    intro k hk
    rw [List.mem_singleton.mp hk]
    exact (by decide : (48 : Nat) ≠ 60)
  | .empty, _ => by
    rw [tok0]
    exact fun k hk => nomatch hk
  | .letter c, h => by
    rw [tok0]
    intro k hk
    rw [List.mem_singleton.mp hk]
    show c ≠ 60
    rcases h with h | h <;> omega
  | .name x, h => by
    rw [tok0]
    intro k hk
    rw [List.mem_singleton.mp hk]
    exact h
  | .sgn j u, h => by
    rw [tok0]
    have sg : ∀ k : _root_.Fin 3, sgc k ≠ 60 := by decide
    refine app_ok (parK_ok (tok_ok u h)) fun k hk => ?_
    rw [List.mem_singleton.mp hk]
    exact sg j
  | .seq l, h => by
    rw [tok0]
    exact toks_ok l h
  | .cho l, h => by
    rw [tok0]
    exact fun k hk => tokb_ok l h k (List.mem_of_mem_drop hk)
theorem toks_ok : ∀ l : List Tr, abs l → ∀ k ∈ toksS l, TokOk k
  | [], _ => by
    rw [toksS]
    exact fun k hk => nomatch hk
  | t :: l, h => by
    rw [toksS]
    exact app_ok (parK_ok (tok_ok t h.1)) (toks_ok l h.2)
theorem tokb_ok : ∀ l : List Tr, abs l → ∀ k ∈ toksB l, TokOk k
  | [], _ => by
    rw [toksB]
    exact fun k hk => nomatch hk
  | t :: l, h => by
    rw [toksB]
    intro k hk
    rcases List.mem_cons.mp hk with rfl | hk
    · exact (by decide : (124 : Nat) ≠ 60)
    · exact app_ok (parK_ok (tok_ok t h.1)) (tokb_ok l h.2) k hk
end
open PySem.StrLaws in
theorem repl_toks : ∀ l : List Tk, (∀ k ∈ l, TokOk k) → replL [60, 120, 62] [99] (l.flatMap tkL) = (l.map sub1).flatMap tkL
  | [], _ => replL_nil
  | .ch c :: l, h => by
    have hc : c ≠ 60 := h _ (.head _)
    show replL [60, 120, 62] [99] (c :: l.flatMap tkL) = c :: (l.map sub1).flatMap tkL
    rw [replL_miss, repl_toks l fun k hk => h k (.tail _ hk)]
    intro e
    have e1 : c :: (l.flatMap tkL).take 2 = [60, 120, 62] := e
    injection e1 with e1 _
    exact hc e1
  | .nm x :: l, h => by
    have hx : x = "x" := h (.nm x) (.head _)
    subst hx
    show replL [60, 120, 62] [99] (60 :: 120 :: 62 :: l.flatMap tkL) = 99 :: (l.map sub1).flatMap tkL
    rw [replL_hit (by decide) rfl]
    show [99] ++ replL [60, 120, 62] [99] (l.flatMap tkL) = _
    rw [repl_toks l fun k hk => h k (.tail _ hk)]
    rfl
/-- the written replacing is the replacing -/
theorem replace_wr {t : Tr} (h : ab t) : Txt.replace (wr0 t) "<x>" "c" = wr0 (rep tbx t) := by
  apply Gd.str_ext
  rw [PySem.StrLaws.replace_list (by decide +kernel), wr_toks, wr_toks, tok_rep t h]
  exact repl_toks _ (tok_ok t h)
theorem mem_ch {l : List Tk} (h : ∀ k ∈ l, TokOk k) {c : Nat} (hc : c = 97 ∨ c = 98) : c ∈ l.flatMap tkL ↔ Tk.ch c ∈ l := by
  rw [List.mem_flatMap]
  constructor
  · rintro ⟨k, hk, hz⟩
    cases k with
    | ch d =>
      have : c = d := by simpa [tkL] using hz
      rw [this]
      exact hk
    | nm x =>
      have hx : x = "x" := h _ hk
      subst hx
      have : c = 60 ∨ c = 120 ∨ c = 62 := by
        have hz : c ∈ [60, 120, 62] := hz
        simpa using hz
      omega
  · intro hk
    exact ⟨_, hk, .head _⟩
theorem mem_lt {l : List Tk} (h : ∀ k ∈ l, TokOk k) : 60 ∈ l.flatMap tkL ↔ Tk.nm "x" ∈ l := by
  rw [List.mem_flatMap]
  constructor
  · rintro ⟨k, hk, hz⟩
    cases k with
    | ch d =>
      have : 60 = d := by simpa [tkL] using hz
      exact absurd this.symm (h _ hk)
    | nm x =>
      have hx : x = "x" := h _ hk
      subst hx
      exact hk
  · intro hk
    exact ⟨_, hk, .head _⟩
theorem parK_mem {b : Bool} {l : List Tk} {k : Tk} (h1 : k ≠ .ch 40) (h2 : k ≠ .ch 41) : k ∈ parK b l ↔ k ∈ l := by
  cases b with
  | false => exact Iff.rfl
  | true =>
    show k ∈ Tk.ch 40 :: (l ++ [Tk.ch 41]) ↔ _
    rw [List.mem_cons, List.mem_append, List.mem_singleton]
    exact ⟨fun z => z.elim (fun e => absurd e h1) fun z => z.elim id fun e => absurd e h2, fun z => .inr (.inl z)⟩
/-- the mark of a word -/
def Wk (kd : Str) (k : Tk) (x : Str) : Prop := (kd = sLetter ∧ ∃ c, k = .ch c ∧ (c = 97 ∨ c = 98) ∧ x = ⟨#[c]⟩) ∨ (kd = sName ∧ k = .nm "x" ∧ x = "x")
theorem Wk.not {kd : Str} {k : Tk} {x : Str} (w : Wk kd k x) {c : Nat} (h1 : c ≠ 97) (h2 : c ≠ 98) : k ≠ .ch c := by
  rcases w with ⟨_, d, rfl, hd, _⟩ | ⟨_, rfl, _⟩
  · intro e
    injection e with e
    omega
  · exact fun e => nomatch e
theorem join_le (sep : Str) : ∀ l : List Str, (Txt.join sep l).length ≤ (l.map (·.length)).sum + l.length * sep.length := by
  intro l
  rw [join_str]
  induction l with
  | nil => exact Nat.zero_le _
  | cons x l ih =>
    cases l with
    | nil =>
      show x.length ≤ x.length + 0 + 1 * sep.length
      omega
    | cons y r =>
      show (x ++ sep ++ Str.join sep (y :: r)).length ≤ x.length + ((y :: r).map (·.length)).sum + ((y :: r).length + 1) * sep.length
      rw [len_app, len_app, Nat.add_mul]
      omega
mutual
theorem mem_tok {kd : Str} {k : Tk} {x : Str} (w : Wk kd k x) : ∀ t : Tr, ab t → (k ∈ tok0 t ↔ x ∈ wo kd t)
  | .none, _ => by
    rw [tok0, List.mem_singleton]
    exact ⟨fun e => absurd e (w.not (by decide) (by decide)), (fun z => nomatch z)⟩
  | .empty, _ => by
    rw [tok0]
    exact ⟨(fun z => nomatch z), (fun z => nomatch z)⟩
  | .letter d, h => by
    rw [tok0, List.mem_singleton]
    show _ ↔ x ∈ (if kd = sLetter then [(⟨#[d]⟩ : Str)] else [])
    rcases w with ⟨rfl, c, rfl, hc, rfl⟩ | ⟨rfl, rfl, rfl⟩
    · rw [if_pos rfl, List.mem_singleton]
      constructor
      · intro e
        injection e with e
        rw [e]
      · intro e
        injection e with e
        injection e with e
        injection e with e
        rw [e]
    · rw [if_neg (by decide +kernel)]
      exact ⟨(fun z => nomatch z), (fun z => nomatch z)⟩
  | .name y, h => by
    have e : y = "x" := h
    subst e
    rw [tok0, List.mem_singleton]
    show _ ↔ x ∈ (if kd = sName then [("x" : Str)] else [])
    rcases w with ⟨rfl, c, rfl, hc, rfl⟩ | ⟨rfl, rfl, rfl⟩
    · rw [if_neg (by decide +kernel)]
      exact ⟨(fun z => nomatch z), (fun z => nomatch z)⟩
    · rw [if_pos rfl, List.mem_singleton]
      exact ⟨fun _ => rfl, fun _ => rfl⟩
  | .sgn j u, h => by
    have sg : ∀ k : _root_.Fin 3, sgc k ≠ 97 ∧ sgc k ≠ 98 := by decide
    rw [tok0, List.mem_append, List.mem_singleton, parK_mem (w.not (by decide) (by decide)) (w.not (by decide) (by decide)), mem_tok w u h]
    exact ⟨fun z => z.elim id fun e => absurd e (w.not (sg j).1 (sg j).2), .inl⟩
  | .seq l, h => by
    rw [tok0]
    exact mem_toks w l h
  | .cho l, h => by
    rw [tok0]
    refine Iff.trans ?_ (mem_tokb w l h)
    cases l with
    | nil => rw [toksB]; exact Iff.rfl
    | cons t l =>
      rw [toksB]
      exact ⟨fun z => .tail _ z, fun z => (List.mem_cons.mp z).elim (fun e => absurd e (w.not (by decide) (by decide))) id⟩
theorem mem_toks {kd : Str} {k : Tk} {x : Str} (w : Wk kd k x) : ∀ l : List Tr, abs l → (k ∈ toksS l ↔ x ∈ wos kd l)
  | [], _ => by
    rw [toksS]
    exact ⟨(fun z => nomatch z), (fun z => nomatch z)⟩
  | t :: l, h => by
    rw [toksS, List.mem_append, parK_mem (w.not (by decide) (by decide)) (w.not (by decide) (by decide)), mem_tok w t h.1, mem_toks w l h.2]
    exact List.mem_append.symm
theorem mem_tokb {kd : Str} {k : Tk} {x : Str} (w : Wk kd k x) : ∀ l : List Tr, abs l → (k ∈ toksB l ↔ x ∈ wos kd l)
  | [], _ => by
    rw [toksB]
    exact ⟨(fun z => nomatch z), (fun z => nomatch z)⟩
  | t :: l, h => by
    rw [toksB, List.mem_cons, List.mem_append, parK_mem (w.not (by decide) (by decide)) (w.not (by decide) (by decide)), mem_tok w t h.1, mem_tokb w l h.2]
    have e : x ∈ wos kd (t :: l) ↔ x ∈ wo kd t ∨ x ∈ wos kd l := List.mem_append
    rw [e]
    exact ⟨fun z => z.elim (fun e => absurd e (w.not (by decide) (by decide))) id, .inr⟩
end
/-! ### what is asked of them -/
theorem isin_letter {t : Tr} (h : ab t) {c : Nat} (hc : c = 97 ∨ c = 98) : (!(Builtin.Str.occurrences (wr0 t) ⟨#[c]⟩ 0 (wr0 t).length 1).isEmpty) = decide ((⟨#[c]⟩ : Str) ∈ wo sLetter t) := by
  rw [PySem.StrLaws.found_one, wr_toks]
  exact decide_eq_decide.mpr ((mem_ch (tok_ok t h) hc).trans (mem_tok (.inl ⟨rfl, c, rfl, hc, rfl⟩) t h))
theorem isin_name {t : Tr} (h : ab t) : (!(Builtin.Str.occurrences (wr0 t) "<" 0 (wr0 t).length 1).isEmpty) = decide (("x" : Str) ∈ wo sName t) := by
  show (!(Builtin.Str.occurrences (wr0 t) ⟨#[60]⟩ 0 (wr0 t).length 1).isEmpty) = _
  rw [PySem.StrLaws.found_one, wr_toks]
  exact decide_eq_decide.mpr ((mem_lt (tok_ok t h)).trans (mem_tok (.inr ⟨rfl, rfl, rfl⟩) t h))
mutual
theorem wo_let : ∀ t : Tr, ab t → ∀ x ∈ wo sLetter t, x = "a" ∨ x = "b"
  | .none, _ => fun x hx => nomatch hx
  | .empty, _ => fun x hx => nomatch hx
  | .letter c, h => fun x hx => by
    have hx : x ∈ (if sLetter = sLetter then [(⟨#[c]⟩ : Str)] else []) := hx
    rw [if_pos rfl, List.mem_singleton] at hx
    rw [hx]
    rcases h with rfl | rfl
    · exact .inl rfl
    · exact .inr rfl
  | .name y, h => fun x hx => by
    have hx : x ∈ (if sLetter = sName then [y] else []) := hx
    rw [if_neg (by decide +kernel)] at hx
    exact nomatch hx
  | .sgn _ u, h => wo_let u h
  | .seq l, h => wos_let l h
  | .cho l, h => wos_let l h
theorem wos_let : ∀ l : List Tr, abs l → ∀ x ∈ wos sLetter l, x = "a" ∨ x = "b"
  | [], _ => fun x hx => nomatch hx
  | t :: l, h => fun x hx => (List.mem_append.mp hx).elim (wo_let t h.1 x) (wos_let l h.2 x)
end
mutual
theorem wo_nam : ∀ t : Tr, ab t → ∀ x ∈ wo sName t, x = "x"
  | .none, _ => fun x hx => nomatch hx
  | .empty, _ => fun x hx => nomatch hx
  | .letter c, h => fun x hx => by
    have hx : x ∈ (if sName = sLetter then [(⟨#[c]⟩ : Str)] else []) := hx
    rw [if_neg (by decide +kernel)] at hx
    exact nomatch hx
  | .name y, h => fun x hx => by
    have hx : x ∈ (if sName = sName then [y] else []) := hx
    rw [if_pos rfl, List.mem_singleton] at hx
    rw [hx]
    exact h
  | .sgn _ u, h => wo_nam u h
  | .seq l, h => wos_nam l h
  | .cho l, h => wos_nam l h
theorem wos_nam : ∀ l : List Tr, abs l → ∀ x ∈ wos sName l, x = "x"
  | [], _ => fun x hx => nomatch hx
  | t :: l, h => fun x hx => (List.mem_append.mp hx).elim (wo_nam t h.1 x) (wos_nam l h.2 x)
end
open PyProof.Rows (sortedS)
/-- the texts of one letter -/
theorem names_are {t : Tr} (h : ab t) {ys : List Str} (hp : ys.Perm (memW (wo sName t))) : ys = if ("x" : Str) ∈ wo sName t then [("x" : Str)] else [] := by
  have nd : ys.Nodup := hp.nodup_iff.mpr (memW_nd _)
  have mem : ∀ z, z ∈ ys ↔ z ∈ wo sName t := fun z => hp.mem_iff.trans memW_mem
  have all : ∀ z ∈ ys, z = "x" := fun z hz => wo_nam t h z ((mem z).mp hz)
  cases ys with
  | nil => rw [if_neg fun z => nomatch (mem _).mpr z]
  | cons y r =>
    have e1 := all y (.head _)
    subst e1
    rw [if_pos ((mem _).mp (.head _))]
    cases r with
    | nil => rfl
    | cons z r =>
      have e2 := all z (.tail _ (.head _))
      subst e2
      exact absurd (.head _) (List.nodup_cons.mp nd).1
theorem letters_are {t : Tr} (h : ab t) {ys : List Str} (hp : ys.Perm (memW (wo sLetter t))) (hs : sortedS ys = true) : ys = ([("a" : Str), "b"]).filter fun z => decide (z ∈ wo sLetter t) := by
  have nd : ys.Nodup := hp.nodup_iff.mpr (memW_nd _)
  have mem : ∀ z, z ∈ ys ↔ z ∈ wo sLetter t := fun z => hp.mem_iff.trans memW_mem
  have all : ∀ z ∈ ys, z = "a" ∨ z = "b" := fun z hz => wo_let t h z ((mem z).mp hz)
  have same : ([("a" : Str), "b"]).filter (fun z => decide (z ∈ wo sLetter t)) = ([("a" : Str), "b"]).filter fun z => decide (z ∈ ys) := List.filter_congr fun z _ => decide_eq_decide.mpr (mem z).symm
  rw [same]
  clear same mem hp
  have no : sortedS [("b" : Str), "a"] = false := by decide +kernel
  rcases ys with _ | ⟨y, _ | ⟨z, _ | ⟨u, r⟩⟩⟩
  · rfl
  · rcases all y (.head _) with rfl | rfl <;> decide +kernel
  · rcases all y (.head _) with rfl | rfl <;> rcases all z (.tail _ (.head _)) with rfl | rfl
    · exact absurd (.head _) (List.nodup_cons.mp nd).1
    · decide +kernel
    · rw [no] at hs
      exact nomatch hs
    · exact absurd (.head _) (List.nodup_cons.mp nd).1
  · exfalso
    obtain ⟨n1, n2⟩ := List.nodup_cons.mp nd
    obtain ⟨n3, n4⟩ := List.nodup_cons.mp n2
    have yz : y ≠ z := fun e => n1 (e ▸ .head _)
    have yu : y ≠ u := fun e => n1 (e ▸ .tail _ (.head _))
    have zu : z ≠ u := fun e => n3 (e ▸ .head _)
    rcases all y (.head _) with rfl | rfl <;> rcases all z (.tail _ (.head _)) with rfl | rfl <;> rcases all u (.tail _ (.tail _ (.head _))) with rfl | rfl
    · exact yz rfl
    · exact yz rfl
    · exact yu rfl
    · exact zu rfl
    · exact zu rfl
    · exact yu rfl
    · exact yz rfl
    · exact yz rfl
/-! ### the tree behind -/
mutual
theorem rep_facts : ∀ t : Tr, t.Wf → ab t → (rep tbx t).Wf ∧ (rep tbx t).height = t.height ∧ nd (rep tbx t) = nd t
  | .none, _, _ => ⟨trivial, rfl, rfl⟩
  | .empty, _, _ => ⟨trivial, rfl, rfl⟩
  | .letter c, h, _ => ⟨h, rfl, rfl⟩
  | .name x, _, h => by
    have e : x = "x" := h
    subst e
    exact ⟨by show low 99 = true; decide, rfl, rfl⟩
  | .sgn k u, h, g => by
    obtain ⟨a, b, c⟩ := rep_facts u h g
    exact ⟨a, congrArg (· + 1) b, congrArg (· + 1) c⟩
  | .seq l, h, g => by
    obtain ⟨a, b, c⟩ := reps_facts l h.2.2 g
    have e := reps_len tbx l
    exact ⟨⟨by rw [e]; exact h.1, by rw [e]; exact h.2.1, a⟩, congrArg (· + 1) b, congrArg (· + 1) c⟩
  | .cho l, h, g => by
    obtain ⟨a, b, c⟩ := reps_facts l h.2.2 g
    have e := reps_len tbx l
    exact ⟨⟨by rw [e]; exact h.1, by rw [e]; exact h.2.1, a⟩, congrArg (· + 1) b, congrArg (· + 1) c⟩
theorem reps_facts : ∀ l : List Tr, Wfs l → abs l → Wfs (reps tbx l) ∧ heights (reps tbx l) = heights l ∧ nds (reps tbx l) = nds l
  | [], _, _ => ⟨trivial, rfl, rfl⟩
  | t :: l, h, g => by
    obtain ⟨a, b, c⟩ := rep_facts t h.1 g.1
    obtain ⟨p, q, r⟩ := reps_facts l h.2 g.2
    refine ⟨⟨a, p⟩, ?_, ?_⟩
    · show max (rep tbx t).height (heights (reps tbx l)) = max t.height (heights l)
      rw [b, q]
    · show nd (rep tbx t) + nds (reps tbx l) = nd t + nds l
      rw [c, r]
end
theorem par_le (b : Bool) (x : Str) : (par b x).length ≤ x.length + 2 := by
  have e1 : (("(" : String) : Str).length = 1 := by decide +kernel
  have e2 : ((")" : String) : Str).length = 1 := by decide +kernel
  cases b with
  | false => exact Nat.le_add_right _ _
  | true =>
    show (Str.empty ++ "(" ++ x ++ ")").length ≤ _
    rw [emp_app, len_app, len_app]
    omega
mutual
theorem wr_len : ∀ t : Tr, t.Wf → (wr0 t).length + 3 ≤ 14 * nd t
  | .none, _ => by rw [wr0]; decide +kernel
  | .empty, _ => by rw [wr0]; decide +kernel
  | .letter c, _ => by rw [wr0]; show 1 + 3 ≤ 14 * 1; decide
  | .name x, h => by
    have e1 : (("<" : String) : Str).length = 1 := by decide +kernel
    have e2 : ((">" : String) : Str).length = 1 := by decide +kernel
    have hx := h.1.len
    rw [wr0, emp_app, len_app, len_app]
    show _ ≤ 14 * 1
    omega
  | .sgn k u, h => by
    have h1 := wr_len u h
    have h2 := par_le (needs u 3) (wr0 u)
    have h3 : ∀ k : _root_.Fin 3, (sgTx k).length = 1 := by decide +kernel
    rw [wr0, len_app, h3 k]
    show _ ≤ 14 * (nd u + 1)
    omega
  | .seq l, h => by
    have h1 := wrs_le l 2 h.2.2
    have h2 := join_le "" (wrs l 2)
    have e : (("" : String) : Str).length = 0 := by decide +kernel
    rw [wr0]
    rw [e] at h2
    show _ ≤ 14 * (nds l + 1)
    omega
  | .cho l, h => by
    have h1 := wrs_le l 1 h.2.2
    have h2 := join_le "|" (wrs l 1)
    have e : (("|" : String) : Str).length = 1 := by decide +kernel
    rw [wr0]
    rw [e] at h2
    show _ ≤ 14 * (nds l + 1)
    omega
theorem wrs_le : ∀ (l : List Tr) (p : Int), Wfs l → ((wrs l p).map (·.length)).sum + (wrs l p).length ≤ 14 * nds l
  | [], _, _ => by rw [wrs]; exact Nat.zero_le _
  | t :: l, p, h => by
    have h1 := wr_len t h.1
    have h2 := wrs_le l p h.2
    have h3 := par_le (needs t p) (wr0 t)
    rw [wrs, List.map_cons, List.sum_cons, List.length_cons]
    show _ ≤ 14 * (nd t + nds l)
    omega
end
end KT

namespace KT
open PySem L2 Gd
def spLaw (K : PySem.W.Frag) : Sp := fun vs H Q _ => ∃ (a : Addr) (ns : List Int), vs = [.ref a] ∧ SqL K H a (ns.map V.int) ∧ ns.length ≤ 63 ∧ ∀ H', Q (.bl true) H'
open PyProof.Rows (sortedS)
theorem dp_strs {K : PySem.W.Frag} {H : Hp} : ∀ ys : List Str, DpAll K H (ys.map V.str) (ys.map PyData.str)
  | [] => .nil
  | y :: ys => .cons (.str y) (dp_strs ys)
def Few (ys : List Str) : Prop := ys = [] ∨ ys = [("a" : Str)] ∨ ys = [("b" : Str)] ∨ ys = [("a" : Str), "b"] ∨ ys = [("x" : Str)]
theorem few_ok {ys : List Str} (h : Few ys) : SeqAt.shaped (.list (ys.map PyData.str)) = true ∧ (!PyData.eqv (.list (ys.map PyData.str)) (.list (ys.map PyData.str))) = false := by
  rcases h with rfl | rfl | rfl | rfl | rfl <;> decide +kernel
theorem let_cases {t : Tr} {ys : List Str} (h : ys = ([("a" : Str), "b"]).filter fun z => decide (z ∈ wo sLetter t)) :
    (Few ys) ∧ (((("ab" : String) : Str).cps.toList.filter fun c => decide ((⟨#[c]⟩ : Str) ∈ wo sLetter t)).map fun c => V.str ⟨#[c]⟩) = ys.map V.str := by
  have e : (("ab" : String) : Str).cps.toList = [97, 98] := by decide +kernel
  rw [e]
  have e1 : (⟨#[97]⟩ : Str) = "a" := by decide +kernel
  have e2 : (⟨#[98]⟩ : Str) = "b" := by decide +kernel
  subst h
  by_cases ha : ("a" : Str) ∈ wo sLetter t <;> by_cases hb : ("b" : Str) ∈ wo sLetter t <;> simp [Few, e1, e2, ha, hb, List.filter]
section
variable {P : Program} {w : World} {K : PySem.W.Frag} {mg : Str → Option Value} {base : Heap} {aS aL : Addr} {es : Array DictEntry} {n : Nat}
abbrev slaw : Stmt := top 49
theorem sclaw : FnScope ["_law_script", "_law_k", "_law_box_here", "_law_root", "_law_line", "_law_leaf", "_law_due", "_law_sign"] ["_law_script"] (defScope slaw) := ⟨rfl, rfl, rfl, by decide +kernel, rfl, by decide +kernel, by decide +kernel⟩
theorem ok_law {f f1 f2 f3 f4 f5 f6 f7 f8 f9 f10 : Addr} {fd fd1 fd2 fd3 fd4 fd5 fd6 fd7 fd8 fd9 fd10 : FuncData} (F : Fun K "law" "law" slaw f fd) (T : Txt w K mg base aS aL es n) (zr : mg "range" = none) (zm : mg "max" = none) (zn : mg "min" = none) (zp : mg "repr" = none) (zi : mg "int" = none)
    (D__law_cell : Df P w K mg base CX0 1 "_law_cell" f1 fd1 ["_law_script", "_law_k"] (spScr K)) (D__law_box : Df P w K mg base CX0 1 "_law_box" f2 fd2 ["_law_cell_here"] spBoxC)
    (D__law_tree : Df P w K mg base CX0 2 "_law_tree" f3 fd3 ["_law_box_here", "_law_letters", "_law_names"] spTree) (D__law_text : Df P w K mg base CX0 23 "_law_text" f4 fd4 ["_law_root", "_law_wanted"] (spTxt 21))
    (D_parse_expression : Df P w K mg base (L2.CX P w) 4 "parse_expression" f5 fd5 ["text"] spParseT) (D_parse_expression_0_text : Dk P w K mg base (L2.CX P w) 4 "parse_expression" f5 fd5 ["text"] spParseT 0 ["text"] (fun _ zs => zs))
    (D_expression_text_0_tree : Dk P w K mg base (L2.CX P w) 89 "expression_text" f6 fd6 ["tree"] spText 0 ["tree"] (fun _ zs => zs)) (D_is_tree_0_value : Dk P w K mg base CX0 87 "is_tree" f7 fd7 ["value"] spIsTree 0 ["value"] (fun _ zs => zs))
    (D_letters_of_0_tree : Dk P w K mg base (L2.CX P w) 89 "letters_of" f8 fd8 ["tree"] (spLetters sLetter) 0 ["tree"] (fun _ zs => zs)) (D_names_of_0_tree : Dk P w K mg base (L2.CX P w) 89 "names_of" f9 fd9 ["tree"] (spLetters sName) 0 ["tree"] (fun _ zs => zs))
    (D_with_names_0_table_tree : Dk P w K mg base (L2.CX P w) 89 "with_names" f10 fd10 ["tree", "table"] spWith 0 ["table", "tree"] (fun _ zs => zs.reverse)) :
    FnG P w K mg base CX0 90 f fd ["_law_script"] (spLaw K) := by
  refine okG F sclaw (fun vs H Q E h => ?_) (fun cdv A outer s H vs Q E hc hr h => ?_)
  · obtain ⟨a, ns, rfl, _⟩ := h
    rfl
  obtain ⟨a, ns, rfl, ha, hns, q⟩ := h
  refine ⟨_, (pss_cons (ps_for (passes_of rfl) rfl (pi_range1 rfl zr (pa_cons (pe_callB (call_max2 rfl) (by rfl) zm (by decide +kernel) (pa_cons pe_int (pa_cons (pe_callB (call_min2 rfl) (by rfl) zn (by decide +kernel) (pa_cons pe_int (pa_cons (pe_callB call_len_seq (by rfl) T.z_len (by decide +kernel) (pa_cons (pv 0) pa_nil)) pa_nil))) pa_nil))) pa_nil)) (pg_name (i := 1) sclaw.nd rfl (Or.inl rfl))
  (pss_cons (ps_set (i := 2) sclaw.nd rfl (Or.inl rfl) (pe_d D__law_box hc (hr.mono (by omega)) (by rfl) (fun _ => passN) (pa_cons (pe_d D__law_cell hc (hr.mono (by omega)) (by rfl) (fun _ => passN) (pa_cons (pv 0) (pa_cons (pv 1) pa_nil))) pa_nil)))
 (pss_cons (ps_set (i := 3) sclaw.nd rfl (Or.inl rfl) (pe_d D__law_tree hc (hr.mono (by omega)) (by rfl) (fun _ => passN) (pa_cons (pv 2) (pa_cons (pe_lst (pa_cons pe_str (pa_cons pe_str pa_nil))) (pa_cons (pe_lst (pa_cons pe_str pa_nil)) pa_nil)))))
 (pss_out (po_tup (poa_late (pe_d D__law_text hc (hr.mono (by omega)) (by rfl) (fun _ => passN) (pa_cons (pv 3) (pa_cons pe_int pa_nil))) (poa_now (po_tup (poa_now po_str (pa_cons pe_str pa_nil))) pa_nil))) (pg_tup (by rfl) (pgs_cons (pg_name (i := 4) sclaw.nd rfl (Or.inr rfl)) (pgs_cons (pg_name (i := 5) sclaw.nd rfl (Or.inl rfl)) pgs_nil)))
 (psst_cons (PST.of (ps_if (PW.pt (pw_or (pt_cmpR op_ne (pe_callB (call_repr hc T.sys (room100 hr)) (by rfl) zp (by decide +kernel) (pa_cons (pe_dk0 D_parse_expression_0_text hc (hr.mono (by omega)) (by rfl) (fun _ => passM) (pk_cons (pv 4) pk_nil)) pa_nil)) (pe_callB (call_repr hc T.sys (room100 hr)) (by rfl) zp (by decide +kernel) (pa_cons (pv 3) pa_nil)) (nomark _)) (pw_or1 (pt_cmpR op_ne (pe_dk0 D_expression_text_0_tree hc (hr.mono (by omega)) (by rfl) (fun _ => passM) (pk_cons (pv 3) pk_nil)) (pv 4) (nomark _)))))
  (pss_one (ps_ret pe_bl)) pss_nil))
 (psst_cons (PST.of (ps_if (PW.pt (pw_or (pt_cmpR op_ne (pe_callB (call_repr hc T.sys (room100 hr)) (by rfl) zp (by decide +kernel) (pa_cons (pe_dk0 D_is_tree_0_value hc (hr.mono (by omega)) (by rfl) (fun _ => passN) (pk_cons (pv 3) pk_nil)) pa_nil)) pe_str (nomark _)) (pw_or1 (pt_cmpR op_ne (pe_callB (call_repr hc T.sys (room100 hr)) (by rfl) zp (by decide +kernel) (pa_cons (pe_dk0 D_is_tree_0_value hc (hr.mono (by omega)) (by rfl) (fun _ => passN) (pk_cons (pv 4) pk_nil)) pa_nil)) pe_str (nomark _)))))
  (pss_one (ps_ret pe_bl)) pss_nil))
 (psst_cons (PST.of (ps_if (pt_cmpR (op_neD hr.units) (pe_dk0 D_letters_of_0_tree hc (hr.mono (by omega)) (by rfl) (fun _ => passM) (pk_cons (pv 3) pk_nil)) (pe_lc (own := [("_law_sign", 7)]) (g := gName 7) rfl sclaw.nd (pi_str pe_str) (blkOk_by (N := ["_law_script", "_law_k", "_law_box_here", "_law_root", "_law_line", "_law_leaf", "_law_due", "_law_sign"]) (sc := defScope slaw) (by decide +kernel)) (fun _ _ _ _ _ => pg_name (i := 7) sclaw.nd rfl (Or.inl rfl)) (fun _ _ _ _ _ => (pts_one (pt_cmpR op_in_str (pv 7) (pv 4) (by rfl)))) (fun _ _ _ _ _ => (pv 7))) (nomark _))
  (pss_one (ps_ret pe_bl)) pss_nil))
 (psst_cons (PST.of (ps_if (pt_cmpR (op_neD hr.units) (pe_dk0 D_names_of_0_tree hc (hr.mono (by omega)) (by rfl) (fun _ => passM) (pk_cons (pv 3) pk_nil)) (pe_op op_rep (pe_lst (pa_cons pe_str pa_nil)) (pe_callTy call_int1 (by rfl) zi (by decide +kernel) (pa_cons (pe_cmpR op_in_str pe_str (pv 4) (by rfl)) pa_nil))) (nomark _))
  (pss_one (ps_ret pe_bl)) pss_nil))
 (psst_cons (pst_set (i := 6) sclaw.nd rfl (Or.inl rfl) (pet_d D_parse_expression hc (hr.mono (by omega)) (by rfl) (fun _ => passM) (pat_cons (CwR.pet_replC (pv 4) (by decide +kernel)) pat_nil)))
 (PSsT.of (pss_one (ps_if (pt_cmpR op_ne (pe_callB (call_repr hc T.sys (room100 hr)) (by rfl) zp (by decide +kernel) (pa_cons (pe_dk0 D_with_names_0_table_tree hc (hr.mono (by omega)) (by rfl) (fun _ => passM) (pk_cons (pe_disp (pps_cons pe_str (pv 5) pps_nil) (by rfl) (by rfl) (fun z => by cases z) (by decide)) (pk_cons (pv 3) pk_nil))) pa_nil)) (pe_callB (call_repr hc T.sys (room100 hr)) (by rfl) zp (by decide +kernel) (pa_cons (pv 6) pa_nil)) (nomark _))
  (pss_one (ps_ret pe_bl)) pss_nil))))))))))))
 (pss_one (ps_ret pe_bl))), ?_⟩
  have z16 := sizeLine_eq
  refine ⟨_, rfl, a, _, rfl, .inl ha, _, _, rfl, _, _, rfl, _, rfl, ?_, ?_, ?_⟩
  · split <;> split <;> omega
  · split <;> split <;> omega
  refine for_range (fun i σ H' => ∃ o1 o2 o3 o4 o5 o6, σ = [some (.ref a), o1, o2, o3, o4, o5, o6, none] ∧ SqL K H' a (ns.map V.int)) ⟨none, none, none, none, none, none, rfl, ha⟩ ?_ (fun _ _ _ => q _)
  rintro i _ H1 hi ⟨o1, o2, o3, o4, o5, o6, rfl, h1⟩
  have hi8 : i < 1000 := by
    refine Nat.lt_of_lt_of_le hi ?_
    split <;> split <;> omega
  refine ⟨_, rfl, _, rfl, a, ns, _, rfl, h1, ?_, ?_, fun z => ⟨z, rfl, fun p o hp hb => ?_⟩⟩
  · omega
  · omega
  refine ⟨_, rfl, by show 2 ≤ sizeLine; omega, fun la hla => ⟨by show 1 ≤ sizeLine; omega, fun na hna => ?_⟩⟩
  have hlp : la ≠ p := fun e => by rw [e, upd_same] at hla; exact nomatch hla
  have hla0 : H1 la = none := by rw [upd_ne hlp] at hla; exact hla
  have k1 := (fun c u e => ne_keep hna (ne_keep hla e) : Same (upd H1 p o) (upd (upd (upd H1 p o) la (.lst [.str "a", .str "b"])) na (.lst [.str "x"])))
  have hbox : BoxC (upd (upd (upd H1 p o) la (.lst [.str "a", .str "b"])) na (.lst [.str "x"])) p 0 := by
    obtain ⟨x, y, z, e, r⟩ := hb
    exact ⟨x, y, z, k1 _ _ e, r⟩
  refine ⟨p, la, na, rfl, hbox, ne_keep hna upd_same, upd_same, fun t v H4 gt hnd h4 tr => ?_⟩
  have s4 : Same H1 H4 := fun c u e => h4 c u (ne_of_none e hp) (k1 _ _ (ne_keep hp e))
  obtain ⟨hw, hab, hh⟩ := gt
  have hlen := wr_len t hw
  have e00 : wrAt t 0 = wr0 t := by
    unfold wrAt
    rw [needs0]
    rfl
  obtain ⟨dk1, dk2, dk3⟩ := dT_ok t hw
  refine ⟨_, rfl, v, t, 0, rfl, tr, hw, by decide, by decide, hh, by rw [e00]; omega, fun H5 s5 => ?_⟩
  rw [e00]
  refine ⟨by show 2 ≤ sizeLine; omega, fun q1 hq1 => ⟨by show 2 ≤ sizeLine; omega, fun q2 hq2 => ⟨q2, [.str (wr0 t), .ref q1], rfl, SqT.of upd_same, rfl, _, _, rfl, _, _, rfl, rfl, ?_⟩⟩⟩
  have s6 : Same H4 (upd (upd H5 q1 (.tup [.str "letter", .str "c"])) q2 (.tup [.str (wr0 t), .ref q1])) := fun c u e => ne_keep hq2 (ne_keep hq1 (s5 _ _ e))
  have leaf : TrAt (upd (upd H5 q1 (.tup [.str "letter", .str "c"])) q2 (.tup [.str (wr0 t), .ref q1])) (.ref q1) (.letter 99) := .letter (ne_keep hq2 upd_same)
  generalize upd (upd H5 q1 (.tup [.str "letter", .str "c"])) q2 (.tup [.str (wr0 t), .ref q1]) = H6 at s6 leaf
  have tr6 := tr.same s6
  refine ⟨_, rfl, rfl, rfl, t, rfl, hw, hh, by omega, fun v7 H7 s7 tr7 => ⟨_, dT t, rfl, da_tree tr7, dk1, by omega, by omega, _, rfl, _, dT t, rfl, da_tree (tr6.same s7), dk1, by omega, by omega, ?_⟩⟩
  have same : ∀ x : Str, (!decide (V.str x = V.str x)) = false := fun x => by simp
  refine ⟨rfl, _, rfl, ?_⟩
  refine iteB (fun c => absurd (c.symm.trans (same _)) (by decide)) (fun _ => ?_)
  have tr7' := tr6.same s7
  refine ⟨_, rfl, rfl, rfl, v, t, rfl, tr7', hw, hh, by omega, fun H8 s8 => ⟨_, rfl, rfl, _, rfl, ?_⟩⟩
  refine iteB (fun c => absurd (c.symm.trans (same _)) (by decide)) (fun _ => ?_)
  have tr8 := tr7'.same s8
  -- is_tree
  have showT : (PyData.bool true).shown = "True" := by decide +kernel
  have showF : (PyData.bool false).shown = "False" := by decide +kernel
  refine ⟨_, rfl, rfl, rfl, .inl ⟨v, t, rfl, tr8, hw, hh, fun H9 s9 => ⟨_, .bool true, rfl, .bl true, trivial, by show 5 ≤ sizeLine; omega, by decide +kernel, ?_⟩⟩⟩
  rw [showT]
  refine ⟨rfl, _, rfl, ?_⟩
  refine iteB (fun c => absurd (c.symm.trans (same _)) (by decide)) (fun _ => ?_)
  refine ⟨_, rfl, rfl, rfl, .inr ⟨_, rfl, ⟨_, .bool false, rfl, .bl false, trivial, by show 5 ≤ sizeLine; omega, by decide +kernel, ?_⟩⟩⟩
  rw [showF]
  refine ⟨rfl, _, rfl, ?_⟩
  refine iteB (fun c => absurd (c.symm.trans (same _)) (by decide)) (fun _ => ?_)
  have tr9 := tr8.same s9
  -- letters
  refine ⟨_, rfl, rfl, rfl, v, t, rfl, tr9, hw, hh, hnd, fun ys pl HA sA hpl hperm hsort hval => ?_⟩
  refine ⟨"ab", rfl, fun D hD => ?_⟩
  have lab : (("ab" : String) : Str).length < sizeLine := Nat.lt_of_le_of_lt (show (("ab" : String) : Str).length ≤ 2 by decide +kernel) (by omega)
  have abs2 : ∀ c ∈ (("ab" : String) : Str).cps.toList, c = 97 ∨ c = 98 := by decide +kernel
  refine lc_text (fun c => .str ⟨#[c]⟩) (fun c => decide ((⟨#[c]⟩ : Str) ∈ wo sLetter t)) lab (fun c acc Q' hc k => ?_) (fun c acc Q' hc _ k => ?_) ?_
  · refine ⟨_, rfl, _, rfl, _, _, rfl, rfl, ?_⟩
    rw [isin_letter hab (abs2 c hc)]
    exact ⟨_, rfl, k⟩
  · exact ⟨_, rfl, k⟩
  obtain ⟨four, eL⟩ := let_cases (letters_are hab hperm hsort)
  obtain ⟨sh, eq⟩ := few_ok four
  rw [eL]
  refine ⟨_, _, .lst (SqL.of (ne_keep hD hval)) (dp_strs ys), .lst (SqL.of upd_same) (dp_strs ys), sh, sh, _, rfl, ?_⟩
  refine iteB (fun c => absurd (c.symm.trans eq) (by decide)) (fun _ => ?_)
  have sB : Same HA (upd HA D (.lst (ys.map V.str))) := fun c u e => ne_keep hD e
  have sAB := sA.trans sB
  have trB := (tr9.same sAB)
  have s9B := s9.trans sAB
  generalize upd HA D (.lst (ys.map V.str)) = HB at sB sAB trB s9B
  clear hval hperm hsort hpl eL four sh eq
  -- names
  refine ⟨_, rfl, rfl, rfl, v, t, rfl, trB, hw, hh, hnd, fun zs pl2 HC sC hpl hperm hsort hval => ?_⟩
  obtain ⟨m, hm, hm1, hz, few⟩ : ∃ m : Nat, (if decide (("x" : Str) ∈ wo sName t) = true then (1 : Int) else 0) = m ∧ m ≤ 1 ∧ (List.replicate m [V.str "x"]).flatten = zs.map V.str ∧ Few zs := by
    have e := names_are hab hperm
    by_cases hx : ("x" : Str) ∈ wo sName t
    · rw [if_pos hx] at e
      rw [e, decide_eq_true hx]
      exact ⟨1, rfl, by decide, rfl, .inr (.inr (.inr (.inr rfl)))⟩
    · rw [if_neg hx] at e
      rw [e, decide_eq_false hx]
      exact ⟨0, rfl, by decide, rfl, .inl rfl⟩
  obtain ⟨sh, eq⟩ := few_ok few
  refine ⟨by show 1 ≤ sizeLine; omega, fun lx hlx => ⟨_, rfl, "<", wr0 t, rfl, rfl, ?_⟩⟩
  rw [isin_name hab]
  refine .inr ⟨_, rfl, ?_⟩
  rw [hm]
  refine ⟨lx, _, _, rfl, rfl, upd_same, by omega, by omega, ?_, fun pr hpr => ?_⟩
  · show 1 * ((m : Int)).toNat ≤ sizeLine
    omega
  rw [show ((m : Nat) : Int).toNat = m from rfl]
  rw [hz]
  refine ⟨_, _, .lst (SqL.of (ne_keep hpr (ne_keep hlx hval))) (dp_strs zs), .lst (SqL.of upd_same) (dp_strs zs), sh, sh, _, rfl, ?_⟩
  refine iteB (fun c => absurd (c.symm.trans eq) (by decide)) (fun _ => ?_)
  have sD : Same HC (upd (upd HC lx (.lst [.str "x"])) pr (.lst (zs.map V.str))) := fun c u e => ne_keep hpr (ne_keep hlx e)
  have trD := (trB.same sC).same sD
  have s9D := s9B.trans (sC.trans sD)
  generalize upd (upd HC lx (.lst [.str "x"])) pr (.lst (zs.map V.str)) = HD at sD trD s9D
  clear hz few sh eq hval hpl hperm hsort
  -- the name replaced in the text
  obtain ⟨rw', rh, rn⟩ := rep_facts t hw hab
  have rlen := wr_len (rep tbx t) rw'
  refine ⟨_, rfl, wr0 t, rfl, ?_, ?_⟩
  · have e1 : (("c" : String) : Str).length = 1 := by decide +kernel
    rw [e1]
    omega
  rw [replace_wr hab]
  refine ⟨rep tbx t, rfl, rw', by omega, by omega, fun v10 HE sE trE => ?_⟩
  have sHE : Same H6 HE := (s7.trans s8).trans (s9D.trans sE)
  have trE2 := tr6.same sHE
  have leafE := leaf.same sHE
  obtain ⟨rk1, rk2, rk3⟩ := dT_ok (rep tbx t) rw'
  refine fun d hd => ⟨_, rfl, upd_same, [(Sum.inr ("x" : Str), .ref q1)], rfl, by show 1 ≤ 15; decide, _, rfl, rfl, rfl, ?_⟩
  rw [upd_upd]
  have vx : valV (mergeK [] [(Sum.inr ("x" : Str), V.ref q1)]) (Sum.inr ("x" : Str)) = some (.ref q1) := rfl
  refine ⟨HE, v, t, d, mergeK [] [(Sum.inr ("x" : Str), .ref q1)], tbx, rfl, fun c u e => ne_keep hd e, hd, trE2, hw, hh, by omega, upd_same, by show 1 ≤ 1000; decide, ?_, ?_, ?_, rw', by omega, fun v11 HF sF trF => ?_⟩
  · intro k u hk
    have hk : (k, u) ∈ [(Sum.inr ("x" : Str), V.ref q1)] := hk
    obtain ⟨rfl, rfl⟩ := Prod.mk.inj (List.mem_singleton.mp hk)
    exact ⟨"x", .letter 99, rfl, ⟨⟨by decide +kernel, by decide +kernel⟩, by decide +kernel, by decide +kernel⟩, vx, leafE, by show low 99 = true; decide, by decide⟩
  · intro x
    by_cases hx : x = "x"
    · subst hx
      exact .inr ⟨_, .letter 99, vx, rfl, leafE, by show low 99 = true; decide, by decide⟩
    · refine .inl ⟨?_, if_neg hx⟩
      show valV [(Sum.inr ("x" : Str), V.ref q1)] (Sum.inr x) = none
      simp [valV, Ne.symm hx]
  · intro x hx
    have e := wo_nam t hab x hx
    subst e
    exact ⟨⟨by decide +kernel, by decide +kernel⟩, rfl⟩
  have sEF : Same HE HF := fun c u e => sF _ _ (ne_keep hd e)
  refine ⟨_, dT (rep tbx t), rfl, da_tree trF, rk1, by omega, by omega, _, rfl, _, dT (rep tbx t), rfl, da_tree (trE.same sEF), rk1, by omega, by omega, ?_⟩
  refine ⟨rfl, _, rfl, ?_⟩
  refine iteB (fun c => absurd (c.symm.trans (same _)) (by decide)) (fun _ => ?_)
  exact ⟨_, _, _, _, _, _, rfl, (((s4.trans s6).trans sHE).trans sEF).seq h1⟩
end
end KT

namespace KT
open PySem L2 Gd
theorem no_fn {P : Program} {w : World} {K : PySem.W.Frag} {mg : Str → Option Value} {base : Heap} {CX : CXT} {k : Nat} {f : Addr} {fd : FuncData} {ps : List Str} {sp : Sp} (h : ∀ vs H Q E, ¬ sp vs H Q E) : FnG P w K mg base CX k f fd ps sp :=
  ⟨fun vs H Q E z => absurd z (h vs H Q E), fun A outer s H args us vs Q E hc hr e0 hb r z => absurd z (h vs H Q E)⟩
section
variable {P : Program} {w : World} {K : PySem.W.Frag} {mg : Str → Option Value} {base : Heap} {aS aL : Addr} {es : Array DictEntry} {n : Nat}
theorem all_written {f f1 f2 : Addr} {fd fd1 fd2 : FuncData} (F : Fun K "written_at" "written_at" swritten_at f fd) (T : Txt w K mg base aS aL es n) (v_SIGNS : ∀ k : _root_.Fin 3, ∃ u0, PySem.W.nsIn K aS (sSgn k) = some (some u0) ∧ RelV (.str (sgTx k)) u0)
    (D1 : Df P w K mg base CX0 1 "needs_parentheses" f1 fd1 ["kind", "place"] spNeeds) (D2 : Df P w K mg base CX0 1 "place_inside" f2 fd2 ["kind"] spPlace)
    (m0 : mg "written_at" = some (.ref f)) (k0 : PySem.W.keepIn K (.ref f) = true) (b0 : Binds K fd ["tree", "place"] []) : ∀ m, FnG P w K mg base CX0 (2 + m) f fd ["tree", "place"] (spWr m)
  | 0 => no_fn fun vs H Q E h => by
    obtain ⟨v, t, p, _, _, _, _, _, c, _⟩ := h
    have := height_pos t
    omega
  | m + 1 => ok_written F T v_SIGNS D1 D2 ⟨all_written F T v_SIGNS D1 D2 m0 k0 b0 m, m0, k0, b0⟩
theorem all_replaced {f : Addr} {fd : FuncData} (F : Fun K "replaced" "replaced" sreplaced f fd) (T : Txt w K mg base aS aL es n)
    (m0 : mg "replaced" = some (.ref f)) (k0 : PySem.W.keepIn K (.ref f) = true) (b0 : Binds K fd ["tree", "table"] []) : ∀ m, FnG P w K mg base CX0 m f fd ["tree", "table"] (spRep m)
  | 0 => no_fn fun vs H Q E h => by
    obtain ⟨G, v, t, d, kvs, tb, hb, _, _, _, _, _, _, c, _⟩ := h
    have := height_pos t
    omega
  | m + 1 => ok_replaced F T ⟨all_replaced F T m0 k0 b0 m, m0, k0, b0⟩
theorem all_ltext {f : Addr} {fd : FuncData} (F : Fun K "_law_text" "_law_text" s_law_text f fd) (T : Txt w K mg base aS aL es n)
    (m0 : mg "_law_text" = some (.ref f)) (k0 : PySem.W.keepIn K (.ref f) = true) (b0 : Binds K fd ["_law_root", "_law_wanted"] []) : ∀ m, FnG P w K mg base CX0 (2 + m) f fd ["_law_root", "_law_wanted"] (spTxt m)
  | 0 => no_fn fun vs H Q E h => by
    obtain ⟨v, t, p, _, _, _, _, _, c, _⟩ := h
    have := height_pos t
    omega
  | m + 1 => ok_ltext F T ⟨all_ltext F T m0 k0 b0 m, m0, k0, b0⟩
theorem all_treeat {f f1 f2 f3 f4 f5 f6 : Addr} {fd fd1 fd2 fd3 fd4 fd5 fd6 : FuncData} (F : Fun K "is_tree_at" "is_tree_at" sis_tree_at f fd) (FA : Fun K "are_trees_at" "are_trees_at" sare_trees_at f5 fd5) (T : Txt w K mg base aS aL es n)
    (D1 : Df P w K mg base CX0 1 "is_letter" f1 fd1 ["value"] (spAsk isLet)) (D2 : Df P w K mg base CX0 2 "is_name" f2 fd2 ["value"] (spAsk isNam))
    (D3 : Df P w K mg base CX0 1 "needs_parentheses" f3 fd3 ["kind", "place"] spNeeds) (D4 : Df P w K mg base CX0 1 "place_inside" f4 fd4 ["kind"] spPlace) (D6 : Df P w K mg base CX0 1 "is_list" f6 fd6 ["value"] spIsList)
    (m0 : mg "is_tree_at" = some (.ref f)) (k0 : PySem.W.keepIn K (.ref f) = true) (b0 : Binds K fd ["value", "place", "room"] []) (m5 : mg "are_trees_at" = some (.ref f5)) (k5 : PySem.W.keepIn K (.ref f5) = true) (b5 : Binds K fd5 ["value", "place", "room"] []) :
    ∀ m, FnG P w K mg base CX0 (2 + 2 * m) f fd ["value", "place", "room"] (spAt m)
  | 0 => no_fn fun vs H Q E h => by
    obtain ⟨v, t, p, r, _, _, _, _, _, c, _⟩ := h
    have := height_pos t
    omega
  | m + 1 => (ok_treeat F T D1 D2 D3 D4 ⟨ok_aretrees FA T D6 ⟨all_treeat F FA T D1 D2 D3 D4 D6 m0 k0 b0 m5 k5 b5 m, m0, k0, b0⟩, m5, k5, b5⟩ ⟨all_treeat F FA T D1 D2 D3 D4 D6 m0 k0 b0 m5 k5 b5 m, m0, k0, b0⟩).mono (by omega)
end
/-! ### the module's own tables -/
theorem sgn_in {K : PySem.W.Frag} {a : Addr} {u1 u2 u3 : Value} (h1 : PySem.W.nsIn K a "many" = some (some u1)) (h2 : PySem.W.nsIn K a "some" = some (some u2)) (h3 : PySem.W.nsIn K a "maybe" = some (some u3))
    (n1 : PySem.W.nsIn K a "none" = some none) (n2 : PySem.W.nsIn K a "empty" = some none) (n3 : PySem.W.nsIn K a "letter" = some none) (n4 : PySem.W.nsIn K a "name" = some none) (n5 : PySem.W.nsIn K a "sequence" = some none) (n6 : PySem.W.nsIn K a "choice" = some none) :
    ∀ t : Tr, ∃ r, PySem.W.nsIn K a t.kind = some r ∧ r.isSome = isSgn t := by
  intro t
  cases t with
  | none => exact ⟨_, n1, rfl⟩
  | empty => exact ⟨_, n2, rfl⟩
  | letter c => exact ⟨_, n3, rfl⟩
  | name x => exact ⟨_, n4, rfl⟩
  | sgn k t =>
    have : k = 0 ∨ k = 1 ∨ k = 2 := by revert k; decide
    rcases this with rfl | rfl | rfl
    · exact ⟨_, h1, rfl⟩
    · exact ⟨_, h2, rfl⟩
    · exact ⟨_, h3, rfl⟩
  | seq l => exact ⟨_, n5, rfl⟩
  | cho l => exact ⟨_, n6, rfl⟩
theorem tx_in {K : PySem.W.Frag} {a : Addr} {x y : _root_.Fin 3 → Str} {t1 t2 t3 : Tok} (h1 : PySem.W.nsIn K a (x 0) = some (some (.str (y 0) t1))) (h2 : PySem.W.nsIn K a (x 1) = some (some (.str (y 1) t2))) (h3 : PySem.W.nsIn K a (x 2) = some (some (.str (y 2) t3))) :
    ∀ k : _root_.Fin 3, ∃ u0, PySem.W.nsIn K a (x k) = some (some u0) ∧ RelV (.str (y k)) u0 := by
  intro k
  have : k = 0 ∨ k = 1 ∨ k = 2 := by revert k; decide
  rcases this with rfl | rfl | rfl
  · exact ⟨_, h1, _, rfl⟩
  · exact ⟨_, h2, _, rfl⟩
  · exact ⟨_, h3, _, rfl⟩
theorem sig_in {K : PySem.W.Frag} {a : Addr} {e1 e2 e3 : DictEntry} {n : Nat} {t1 t2 t3 : Tok} (hl : K.lookup a = some ⟨.type "dict", none, .dict #[e1, e2, e3] n, #[]⟩) (h1 : e1.key = .str "*" t1) (h2 : e2.key = .str "+" t2) (h3 : e3.key = .str "?" t3) :
    ∀ c : Nat, ∃ r, PySem.W.nsIn K a ⟨#[c]⟩ = some r ∧ r.isSome = isSig c := by
  intro c
  have key : ∀ (e : DictEntry) (x : Str) (d : Nat) (t : Tok), e.key = .str x t → x = ⟨#[d]⟩ → e.key.isStr ⟨#[c]⟩ = decide (c = d) := by
    intro e x d t h1 h2
    rw [h1, h2]
    show ((⟨#[d]⟩ : Str) == ⟨#[c]⟩) = decide (c = d)
    by_cases z : c = d
    · rw [z, decide_eq_true rfl]
      exact beq_self_eq_true _
    · rw [decide_eq_false z]
      refine beq_eq_false_iff_ne.mpr fun q => z ?_
      injection q with q
      injection q with q
      injection q with q
      exact q.symm
  have q1 := key e1 _ 42 _ h1 (by decide +kernel)
  have q2 := key e2 _ 43 _ h2 (by decide +kernel)
  have q3 := key e3 _ 63 _ h3 (by decide +kernel)
  have r1 : e1.refKey = false := by unfold DictEntry.refKey; rw [h1]
  have r2 : e2.refKey = false := by unfold DictEntry.refKey; rw [h2]
  have r3 : e3.refKey = false := by unfold DictEntry.refKey; rw [h3]
  unfold PySem.W.nsIn isSig
  rw [hl]
  show ∃ r, (match List.find? (fun z => z.key.isStr ⟨#[c]⟩) [e1, e2, e3] with
      | some e => some (some e.val)
      | none => if List.any [e1, e2, e3] (fun z => z.refKey) then none else some none) = some r ∧ _
  by_cases c1 : c = 42
  · rw [List.find?_cons_of_pos (by rw [q1, c1]; rfl)]
    exact ⟨_, rfl, by rw [c1]; rfl⟩
  rw [List.find?_cons_of_neg (by rw [q1, decide_eq_false c1]; exact Bool.false_ne_true)]
  by_cases c2 : c = 43
  · rw [List.find?_cons_of_pos (by rw [q2, c2]; rfl)]
    exact ⟨_, rfl, by rw [c2]; rfl⟩
  rw [List.find?_cons_of_neg (by rw [q2, decide_eq_false c2]; exact Bool.false_ne_true)]
  by_cases c3 : c = 63
  · rw [List.find?_cons_of_pos (by rw [q3, c3]; rfl)]
    exact ⟨_, rfl, by rw [c3]; rfl⟩
  rw [List.find?_cons_of_neg (by rw [q3, decide_eq_false c3]; exact Bool.false_ne_true), decide_eq_false c1, decide_eq_false c2, decide_eq_false c3]
  refine ⟨none, ?_, rfl⟩
  show (if (e1.refKey || (e2.refKey || (e3.refKey || false))) = true then none else some none) = some none
  rw [r1, r2, r3]
  rfl
end KT

namespace KT
open PySem PySem.Spec PyProof.Rows L2 Gd
theorem exm_selfG {K : PySem.W.Frag} {S : Addr} (h1 : PySem.W.subIn K (.ref S) (.type "BaseException") = some true) (h2 : PySem.W.isClsIn K S = true) (h3 : PySem.W.typeIn K (.ref S) = some (.type "type")) (h4 : PySem.W.subIn K (.ref S) (.ref S) = some true) :
    PySem.W.exmOne K (.ref S) (.ref S) = some true := by
  have e1 : (PySem.W.subIn K (.ref S) (.type "BaseException") == some true) = true := by rw [h1] <;> rfl
  have e2 : ((PySem.W.clsIn K S).isSome && PySem.W.typeIn K (.ref S) == some (.type "type")) = true := by
    have h2' : (PySem.W.clsIn K S).isSome = true := h2
    rw [h2', h3] <;> rfl
  show (if (PySem.W.subIn K (.ref S) (.type "BaseException") == some true) = true then (if ((PySem.W.clsIn K S).isSome && PySem.W.typeIn K (.ref S) == some (.type "type")) = true then PySem.W.subIn K (.ref S) (.ref S) else none) else none) = some true
  rw [if_pos e1, if_pos e2]
  exact h4
open PySem.W in
theorem all_mk {P : Program} {w : World} {K : PySem.W.Frag} {h : Heap} {mg : Str → Option Value} {fa : Addr} (X : K.In h) (G : h.Ns mainGlobals mg) (hfa : mg "law" = some (.ref fa))
    {f0 : Addr} {od0 an0 : Option Addr} {sl0 : Array (Option Value)} {oc0 kV0 dc0 pm0 cd0 ct0 : Value}
    {f1 : Addr} {od1 an1 : Option Addr} {sl1 : Array (Option Value)} {oc1 kV1 dc1 pm1 cd1 ct1 : Value}
    {f2 : Addr} {od2 an2 : Option Addr} {sl2 : Array (Option Value)} {oc2 kV2 dc2 pm2 cd2 ct2 : Value}
    {f3 : Addr} {od3 an3 : Option Addr} {sl3 : Array (Option Value)} {oc3 kV3 dc3 pm3 cd3 ct3 : Value}
    {f4 : Addr} {od4 an4 : Option Addr} {sl4 : Array (Option Value)} {oc4 kV4 dc4 pm4 cd4 ct4 : Value}
    {f5 : Addr} {od5 an5 : Option Addr} {sl5 : Array (Option Value)} {oc5 kV5 dc5 pm5 cd5 ct5 : Value}
    {f6 : Addr} {od6 an6 : Option Addr} {sl6 : Array (Option Value)} {oc6 kV6 dc6 pm6 cd6 ct6 : Value}
    {f7 : Addr} {od7 an7 : Option Addr} {sl7 : Array (Option Value)} {oc7 kV7 dc7 pm7 cd7 ct7 : Value}
    {f8 : Addr} {od8 an8 : Option Addr} {sl8 : Array (Option Value)} {oc8 kV8 dc8 pm8 cd8 ct8 : Value}
    {f9 : Addr} {od9 an9 : Option Addr} {sl9 : Array (Option Value)} {oc9 kV9 dc9 pm9 cd9 ct9 : Value}
    {f10 : Addr} {od10 an10 : Option Addr} {sl10 : Array (Option Value)} {oc10 kV10 dc10 pm10 cd10 ct10 : Value}
    {f11 : Addr} {od11 an11 : Option Addr} {sl11 : Array (Option Value)} {oc11 kV11 dc11 pm11 cd11 ct11 : Value}
    {f12 : Addr} {od12 an12 : Option Addr} {sl12 : Array (Option Value)} {oc12 kV12 dc12 pm12 cd12 ct12 : Value}
    {f13 : Addr} {od13 an13 : Option Addr} {sl13 : Array (Option Value)} {oc13 kV13 dc13 pm13 cd13 ct13 : Value}
    {f14 : Addr} {od14 an14 : Option Addr} {sl14 : Array (Option Value)} {oc14 kV14 dc14 pm14 cd14 ct14 : Value}
    {f15 : Addr} {od15 an15 : Option Addr} {sl15 : Array (Option Value)} {oc15 kV15 dc15 pm15 cd15 ct15 : Value}
    {f16 : Addr} {od16 an16 : Option Addr} {sl16 : Array (Option Value)} {oc16 kV16 dc16 pm16 cd16 ct16 : Value}
    {f17 : Addr} {od17 an17 : Option Addr} {sl17 : Array (Option Value)} {oc17 kV17 dc17 pm17 cd17 ct17 : Value}
    {f18 : Addr} {od18 an18 : Option Addr} {sl18 : Array (Option Value)} {oc18 kV18 dc18 pm18 cd18 ct18 : Value}
    {f19 : Addr} {od19 an19 : Option Addr} {sl19 : Array (Option Value)} {oc19 kV19 dc19 pm19 cd19 ct19 : Value}
    {f20 : Addr} {od20 an20 : Option Addr} {sl20 : Array (Option Value)} {oc20 kV20 dc20 pm20 cd20 ct20 : Value}
    {f21 : Addr} {od21 an21 : Option Addr} {sl21 : Array (Option Value)} {oc21 kV21 dc21 pm21 cd21 ct21 : Value}
    {f22 : Addr} {od22 an22 : Option Addr} {sl22 : Array (Option Value)} {oc22 kV22 dc22 pm22 cd22 ct22 : Value}
    {f23 : Addr} {od23 an23 : Option Addr} {sl23 : Array (Option Value)} {oc23 kV23 dc23 pm23 cd23 ct23 : Value}
    {f24 : Addr} {od24 an24 : Option Addr} {sl24 : Array (Option Value)} {oc24 kV24 dc24 pm24 cd24 ct24 : Value}
    {f25 : Addr} {od25 an25 : Option Addr} {sl25 : Array (Option Value)} {oc25 kV25 dc25 pm25 cd25 ct25 : Value}
    {f26 : Addr} {od26 an26 : Option Addr} {sl26 : Array (Option Value)} {oc26 kV26 dc26 pm26 cd26 ct26 : Value}
    {f27 : Addr} {od27 an27 : Option Addr} {sl27 : Array (Option Value)} {oc27 kV27 dc27 pm27 cd27 ct27 : Value}
    {f28 : Addr} {od28 an28 : Option Addr} {sl28 : Array (Option Value)} {oc28 kV28 dc28 pm28 cd28 ct28 : Value}
    {f29 : Addr} {od29 an29 : Option Addr} {sl29 : Array (Option Value)} {oc29 kV29 dc29 pm29 cd29 ct29 : Value}
    {aS aK aL : Addr} {eS : Array DictEntry} {nS nK nT : Nat} {eK0 eK1 eK2 : DictEntry} {oT : Option Addr} {slT : Array (Option Value)} {gLt gMt gWt gRt gIt gOt sS0t sS1t sS2t hK0t hK1t hK2t sK0t sK1t sK2t tT0 tT1 : Tok}
    (a0 : PySem.W.nsIn K mainGlobals "is_letter" = some (some (.ref f0)))
    (l0 : K.lookup f0 = some ⟨oc0, od0, .func (PySem.W.fnOf "is_letter" "is_letter" (defArgs sis_letter) (defBody sis_letter) (defScope sis_letter) .none kV0 dc0 pm0 an0 cd0 ct0), sl0⟩)
    (c0 : PySem.W.codeIn K cd0 "is_letter" = true)
    (k0 : PySem.W.keepIn K (.ref f0) = true)
    (a1 : PySem.W.nsIn K mainGlobals "is_text" = some (some (.ref f1)))
    (l1 : K.lookup f1 = some ⟨oc1, od1, .func (PySem.W.fnOf "is_text" "is_text" (defArgs sis_text) (defBody sis_text) (defScope sis_text) .none kV1 dc1 pm1 an1 cd1 ct1), sl1⟩)
    (c1 : PySem.W.codeIn K cd1 "is_text" = true)
    (k1 : PySem.W.keepIn K (.ref f1) = true)
    (a2 : PySem.W.nsIn K mainGlobals "is_name" = some (some (.ref f2)))
    (l2 : K.lookup f2 = some ⟨oc2, od2, .func (PySem.W.fnOf "is_name" "is_name" (defArgs sis_name) (defBody sis_name) (defScope sis_name) .none kV2 dc2 pm2 an2 cd2 ct2), sl2⟩)
    (c2 : PySem.W.codeIn K cd2 "is_name" = true)
    (k2 : PySem.W.keepIn K (.ref f2) = true)
    (a3 : PySem.W.nsIn K mainGlobals "is_list" = some (some (.ref f3)))
    (l3 : K.lookup f3 = some ⟨oc3, od3, .func (PySem.W.fnOf "is_list" "is_list" (defArgs sis_list) (defBody sis_list) (defScope sis_list) .none kV3 dc3 pm3 an3 cd3 ct3), sl3⟩)
    (c3 : PySem.W.codeIn K cd3 "is_list" = true)
    (k3 : PySem.W.keepIn K (.ref f3) = true)
    (a4 : PySem.W.nsIn K mainGlobals "parse_expression" = some (some (.ref f4)))
    (l4 : K.lookup f4 = some ⟨oc4, od4, .func (PySem.W.fnOf "parse_expression" "parse_expression" (defArgs sparse_expression) (defBody sparse_expression) (defScope sparse_expression) .none kV4 dc4 pm4 an4 cd4 ct4), sl4⟩)
    (c4 : PySem.W.codeIn K cd4 "parse_expression" = true)
    (k4 : PySem.W.keepIn K (.ref f4) = true)
    (a5 : PySem.W.nsIn K mainGlobals "may_follow" = some (some (.ref f5)))
    (l5 : K.lookup f5 = some ⟨oc5, od5, .func (PySem.W.fnOf "may_follow" "may_follow" (defArgs smay_follow) (defBody smay_follow) (defScope smay_follow) .none kV5 dc5 pm5 an5 cd5 ct5), sl5⟩)
    (c5 : PySem.W.codeIn K cd5 "may_follow" = true)
    (k5 : PySem.W.keepIn K (.ref f5) = true)
    (a6 : PySem.W.nsIn K mainGlobals "read_mark" = some (some (.ref f6)))
    (l6 : K.lookup f6 = some ⟨oc6, od6, .func (PySem.W.fnOf "read_mark" "read_mark" (defArgs sread_mark) (defBody sread_mark) (defScope sread_mark) .none kV6 dc6 pm6 an6 cd6 ct6), sl6⟩)
    (c6 : PySem.W.codeIn K cd6 "read_mark" = true)
    (k6 : PySem.W.keepIn K (.ref f6) = true)
    (a7 : PySem.W.nsIn K mainGlobals "name_end" = some (some (.ref f7)))
    (l7 : K.lookup f7 = some ⟨oc7, od7, .func (PySem.W.fnOf "name_end" "name_end" (defArgs sname_end) (defBody sname_end) (defScope sname_end) .none kV7 dc7 pm7 an7 cd7 ct7), sl7⟩)
    (c7 : PySem.W.codeIn K cd7 "name_end" = true)
    (k7 : PySem.W.keepIn K (.ref f7) = true)
    (a8 : PySem.W.nsIn K mainGlobals "group_tree" = some (some (.ref f8)))
    (l8 : K.lookup f8 = some ⟨oc8, od8, .func (PySem.W.fnOf "group_tree" "group_tree" (defArgs sgroup_tree) (defBody sgroup_tree) (defScope sgroup_tree) .none kV8 dc8 pm8 an8 cd8 ct8), sl8⟩)
    (c8 : PySem.W.codeIn K cd8 "group_tree" = true)
    (k8 : PySem.W.keepIn K (.ref f8) = true)
    (a9 : PySem.W.nsIn K mainGlobals "row_tree" = some (some (.ref f9)))
    (l9 : K.lookup f9 = some ⟨oc9, od9, .func (PySem.W.fnOf "row_tree" "row_tree" (defArgs srow_tree) (defBody srow_tree) (defScope srow_tree) .none kV9 dc9 pm9 an9 cd9 ct9), sl9⟩)
    (c9 : PySem.W.codeIn K cd9 "row_tree" = true)
    (k9 : PySem.W.keepIn K (.ref f9) = true)
    (a10 : PySem.W.nsIn K mainGlobals "needs_parentheses" = some (some (.ref f10)))
    (l10 : K.lookup f10 = some ⟨oc10, od10, .func (PySem.W.fnOf "needs_parentheses" "needs_parentheses" (defArgs sneeds_parentheses) (defBody sneeds_parentheses) (defScope sneeds_parentheses) .none kV10 dc10 pm10 an10 cd10 ct10), sl10⟩)
    (c10 : PySem.W.codeIn K cd10 "needs_parentheses" = true)
    (k10 : PySem.W.keepIn K (.ref f10) = true)
    (a11 : PySem.W.nsIn K mainGlobals "place_inside" = some (some (.ref f11)))
    (l11 : K.lookup f11 = some ⟨oc11, od11, .func (PySem.W.fnOf "place_inside" "place_inside" (defArgs splace_inside) (defBody splace_inside) (defScope splace_inside) .none kV11 dc11 pm11 an11 cd11 ct11), sl11⟩)
    (c11 : PySem.W.codeIn K cd11 "place_inside" = true)
    (k11 : PySem.W.keepIn K (.ref f11) = true)
    (a12 : PySem.W.nsIn K mainGlobals "is_tree" = some (some (.ref f12)))
    (l12 : K.lookup f12 = some ⟨oc12, od12, .func (PySem.W.fnOf "is_tree" "is_tree" (defArgs sis_tree) (defBody sis_tree) (defScope sis_tree) .none kV12 dc12 pm12 an12 cd12 ct12), sl12⟩)
    (c12 : PySem.W.codeIn K cd12 "is_tree" = true)
    (k12 : PySem.W.keepIn K (.ref f12) = true)
    (a13 : PySem.W.nsIn K mainGlobals "is_tree_at" = some (some (.ref f13)))
    (l13 : K.lookup f13 = some ⟨oc13, od13, .func (PySem.W.fnOf "is_tree_at" "is_tree_at" (defArgs sis_tree_at) (defBody sis_tree_at) (defScope sis_tree_at) .none kV13 dc13 pm13 an13 cd13 ct13), sl13⟩)
    (c13 : PySem.W.codeIn K cd13 "is_tree_at" = true)
    (k13 : PySem.W.keepIn K (.ref f13) = true)
    (a14 : PySem.W.nsIn K mainGlobals "are_trees_at" = some (some (.ref f14)))
    (l14 : K.lookup f14 = some ⟨oc14, od14, .func (PySem.W.fnOf "are_trees_at" "are_trees_at" (defArgs sare_trees_at) (defBody sare_trees_at) (defScope sare_trees_at) .none kV14 dc14 pm14 an14 cd14 ct14), sl14⟩)
    (c14 : PySem.W.codeIn K cd14 "are_trees_at" = true)
    (k14 : PySem.W.keepIn K (.ref f14) = true)
    (a15 : PySem.W.nsIn K mainGlobals "require_tree" = some (some (.ref f15)))
    (l15 : K.lookup f15 = some ⟨oc15, od15, .func (PySem.W.fnOf "require_tree" "require_tree" (defArgs srequire_tree) (defBody srequire_tree) (defScope srequire_tree) .none kV15 dc15 pm15 an15 cd15 ct15), sl15⟩)
    (c15 : PySem.W.codeIn K cd15 "require_tree" = true)
    (k15 : PySem.W.keepIn K (.ref f15) = true)
    (a16 : PySem.W.nsIn K mainGlobals "expression_text" = some (some (.ref f16)))
    (l16 : K.lookup f16 = some ⟨oc16, od16, .func (PySem.W.fnOf "expression_text" "expression_text" (defArgs sexpression_text) (defBody sexpression_text) (defScope sexpression_text) .none kV16 dc16 pm16 an16 cd16 ct16), sl16⟩)
    (c16 : PySem.W.codeIn K cd16 "expression_text" = true)
    (k16 : PySem.W.keepIn K (.ref f16) = true)
    (a17 : PySem.W.nsIn K mainGlobals "written_at" = some (some (.ref f17)))
    (l17 : K.lookup f17 = some ⟨oc17, od17, .func (PySem.W.fnOf "written_at" "written_at" (defArgs swritten_at) (defBody swritten_at) (defScope swritten_at) .none kV17 dc17 pm17 an17 cd17 ct17), sl17⟩)
    (c17 : PySem.W.codeIn K cd17 "written_at" = true)
    (k17 : PySem.W.keepIn K (.ref f17) = true)
    (a18 : PySem.W.nsIn K mainGlobals "words_of" = some (some (.ref f18)))
    (l18 : K.lookup f18 = some ⟨oc18, od18, .func (PySem.W.fnOf "words_of" "words_of" (defArgs swords_of) (defBody swords_of) (defScope swords_of) .none kV18 dc18 pm18 an18 cd18 ct18), sl18⟩)
    (c18 : PySem.W.codeIn K cd18 "words_of" = true)
    (k18 : PySem.W.keepIn K (.ref f18) = true)
    (a19 : PySem.W.nsIn K mainGlobals "letters_of" = some (some (.ref f19)))
    (l19 : K.lookup f19 = some ⟨oc19, od19, .func (PySem.W.fnOf "letters_of" "letters_of" (defArgs sletters_of) (defBody sletters_of) (defScope sletters_of) .none kV19 dc19 pm19 an19 cd19 ct19), sl19⟩)
    (c19 : PySem.W.codeIn K cd19 "letters_of" = true)
    (k19 : PySem.W.keepIn K (.ref f19) = true)
    (a20 : PySem.W.nsIn K mainGlobals "names_of" = some (some (.ref f20)))
    (l20 : K.lookup f20 = some ⟨oc20, od20, .func (PySem.W.fnOf "names_of" "names_of" (defArgs snames_of) (defBody snames_of) (defScope snames_of) .none kV20 dc20 pm20 an20 cd20 ct20), sl20⟩)
    (c20 : PySem.W.codeIn K cd20 "names_of" = true)
    (k20 : PySem.W.keepIn K (.ref f20) = true)
    (a21 : PySem.W.nsIn K mainGlobals "with_names" = some (some (.ref f21)))
    (l21 : K.lookup f21 = some ⟨oc21, od21, .func (PySem.W.fnOf "with_names" "with_names" (defArgs swith_names) (defBody swith_names) (defScope swith_names) .none kV21 dc21 pm21 an21 cd21 ct21), sl21⟩)
    (c21 : PySem.W.codeIn K cd21 "with_names" = true)
    (k21 : PySem.W.keepIn K (.ref f21) = true)
    (a22 : PySem.W.nsIn K mainGlobals "is_tree_table" = some (some (.ref f22)))
    (l22 : K.lookup f22 = some ⟨oc22, od22, .func (PySem.W.fnOf "is_tree_table" "is_tree_table" (defArgs sis_tree_table) (defBody sis_tree_table) (defScope sis_tree_table) .none kV22 dc22 pm22 an22 cd22 ct22), sl22⟩)
    (c22 : PySem.W.codeIn K cd22 "is_tree_table" = true)
    (k22 : PySem.W.keepIn K (.ref f22) = true)
    (a23 : PySem.W.nsIn K mainGlobals "replaced" = some (some (.ref f23)))
    (l23 : K.lookup f23 = some ⟨oc23, od23, .func (PySem.W.fnOf "replaced" "replaced" (defArgs sreplaced) (defBody sreplaced) (defScope sreplaced) .none kV23 dc23 pm23 an23 cd23 ct23), sl23⟩)
    (c23 : PySem.W.codeIn K cd23 "replaced" = true)
    (k23 : PySem.W.keepIn K (.ref f23) = true)
    (a24 : PySem.W.nsIn K mainGlobals "_law_cell" = some (some (.ref f24)))
    (l24 : K.lookup f24 = some ⟨oc24, od24, .func (PySem.W.fnOf "_law_cell" "_law_cell" (defArgs s_law_cell) (defBody s_law_cell) (defScope s_law_cell) .none kV24 dc24 pm24 an24 cd24 ct24), sl24⟩)
    (c24 : PySem.W.codeIn K cd24 "_law_cell" = true)
    (k24 : PySem.W.keepIn K (.ref f24) = true)
    (a25 : PySem.W.nsIn K mainGlobals "_law_box" = some (some (.ref f25)))
    (l25 : K.lookup f25 = some ⟨oc25, od25, .func (PySem.W.fnOf "_law_box" "_law_box" (defArgs s_law_box) (defBody s_law_box) (defScope s_law_box) .none kV25 dc25 pm25 an25 cd25 ct25), sl25⟩)
    (c25 : PySem.W.codeIn K cd25 "_law_box" = true)
    (k25 : PySem.W.keepIn K (.ref f25) = true)
    (a26 : PySem.W.nsIn K mainGlobals "_law_take" = some (some (.ref f26)))
    (l26 : K.lookup f26 = some ⟨oc26, od26, .func (PySem.W.fnOf "_law_take" "_law_take" (defArgs s_law_take) (defBody s_law_take) (defScope s_law_take) .none kV26 dc26 pm26 an26 cd26 ct26), sl26⟩)
    (c26 : PySem.W.codeIn K cd26 "_law_take" = true)
    (k26 : PySem.W.keepIn K (.ref f26) = true)
    (a27 : PySem.W.nsIn K mainGlobals "_law_tree" = some (some (.ref f27)))
    (l27 : K.lookup f27 = some ⟨oc27, od27, .func (PySem.W.fnOf "_law_tree" "_law_tree" (defArgs s_law_tree) (defBody s_law_tree) (defScope s_law_tree) .none kV27 dc27 pm27 an27 cd27 ct27), sl27⟩)
    (c27 : PySem.W.codeIn K cd27 "_law_tree" = true)
    (k27 : PySem.W.keepIn K (.ref f27) = true)
    (a28 : PySem.W.nsIn K mainGlobals "_law_text" = some (some (.ref f28)))
    (l28 : K.lookup f28 = some ⟨oc28, od28, .func (PySem.W.fnOf "_law_text" "_law_text" (defArgs s_law_text) (defBody s_law_text) (defScope s_law_text) .none kV28 dc28 pm28 an28 cd28 ct28), sl28⟩)
    (c28 : PySem.W.codeIn K cd28 "_law_text" = true)
    (k28 : PySem.W.keepIn K (.ref f28) = true)
    (a29 : PySem.W.nsIn K mainGlobals "law" = some (some (.ref f29)))
    (l29 : K.lookup f29 = some ⟨oc29, od29, .func (PySem.W.fnOf "law" "law" (defArgs slaw) (defBody slaw) (defScope slaw) .none kV29 dc29 pm29 an29 cd29 ct29), sl29⟩)
    (c29 : PySem.W.codeIn K cd29 "law" = true)
    (k29 : PySem.W.keepIn K (.ref f29) = true)
    (gL : PySem.W.nsIn K mainGlobals "LONGEST_NAME" = some (some (.int 8 gLt)))
    (gM : PySem.W.nsIn K mainGlobals "MOST_OPEN" = some (some (.int 20 gMt)))
    (gW : PySem.W.nsIn K mainGlobals "WHOLE" = some (some (.int 0 gWt)))
    (gR : PySem.W.nsIn K mainGlobals "ROW" = some (some (.int 1 gRt)))
    (gI : PySem.W.nsIn K mainGlobals "ITEM" = some (some (.int 2 gIt)))
    (gO : PySem.W.nsIn K mainGlobals "OPERAND" = some (some (.int 3 gOt)))
    (gS : PySem.W.nsIn K mainGlobals "SIGNS_BY_KIND" = some (some (.ref aS)))
    (lS : K.lookup aS = some ⟨.type "dict", none, .dict eS nS, #[]⟩)
    (kS : PySem.W.KeysLit w.params eS.toList)
    (wS : (aS == sysModules) = false)
    (sS0 : PySem.W.nsIn K aS "many" = some (some (.str "*" sS0t)))
    (sS1 : PySem.W.nsIn K aS "some" = some (some (.str "+" sS1t)))
    (sS2 : PySem.W.nsIn K aS "maybe" = some (some (.str "?" sS2t)))
    (oS0 : PySem.W.nsIn K aS "none" = some none)
    (oS1 : PySem.W.nsIn K aS "empty" = some none)
    (oS2 : PySem.W.nsIn K aS "letter" = some none)
    (oS3 : PySem.W.nsIn K aS "name" = some none)
    (oS4 : PySem.W.nsIn K aS "sequence" = some none)
    (oS5 : PySem.W.nsIn K aS "choice" = some none)
    (gK : PySem.W.nsIn K mainGlobals "KINDS_BY_SIGN" = some (some (.ref aK)))
    (lK : K.lookup aK = some ⟨.type "dict", none, .dict #[eK0, eK1, eK2] nK, #[]⟩)
    (kK : PySem.W.KeysLit w.params (#[eK0, eK1, eK2] : Array DictEntry).toList)
    (wK : (aK == sysModules) = false)
    (hK0 : eK0.key = .str "*" hK0t)
    (sK0 : PySem.W.nsIn K aK "*" = some (some (.str "many" sK0t)))
    (hK1 : eK1.key = .str "+" hK1t)
    (sK1 : PySem.W.nsIn K aK "+" = some (some (.str "some" sK1t)))
    (hK2 : eK2.key = .str "?" hK2t)
    (sK2 : PySem.W.nsIn K aK "?" = some (some (.str "maybe" sK2t)))
    (gT : PySem.W.nsIn K mainGlobals "LISTED" = some (some (.ref aL)))
    (lT : K.lookup aL = some ⟨.type "tuple", oT, .seq #[.str "sequence" tT0, .str "choice" tT1] nT, slT⟩)
    (z_isinstance : PySem.W.nsIn K mainGlobals "isinstance" = some none)
    (z_str : PySem.W.nsIn K mainGlobals "str" = some none)
    (z_list : PySem.W.nsIn K mainGlobals "list" = some none)
    (z_tuple : PySem.W.nsIn K mainGlobals "tuple" = some none)
    (z_len : PySem.W.nsIn K mainGlobals "len" = some none)
    (z_all : PySem.W.nsIn K mainGlobals "all" = some none)
    (z_set : PySem.W.nsIn K mainGlobals "set" = some none)
    (z_sorted : PySem.W.nsIn K mainGlobals "sorted" = some none)
    (z_dict : PySem.W.nsIn K mainGlobals "dict" = some none)
    (z_range : PySem.W.nsIn K mainGlobals "range" = some none)
    (z_max : PySem.W.nsIn K mainGlobals "max" = some none)
    (z_min : PySem.W.nsIn K mainGlobals "min" = some none)
    (z_repr : PySem.W.nsIn K mainGlobals "repr" = some none)
    (z_int : PySem.W.nsIn K mainGlobals "int" = some none)
    : ∃ fd : FuncData, (∀ (s : Shared) (u : Value), BindsTo s fd ⟨[u], []⟩ [("_law_script", u)]) ∧ ∀ base : Heap, K.In base → base.Ns mainGlobals mg → SysIn base → FnG P w K mg base CX0 90 fa fd ["_law_script"] (spLaw K) := by
  have e := hfa.symm.trans (PySem.W.mg_of X G a29)
  cases e
  have F0 := fun_mk (st := sis_letter) l0 c0 k0
  have m0 := PySem.W.mg_of X G a0
  have F1 := fun_mk (st := sis_text) l1 c1 k1
  have m1 := PySem.W.mg_of X G a1
  have F2 := fun_mk (st := sis_name) l2 c2 k2
  have m2 := PySem.W.mg_of X G a2
  have F3 := fun_mk (st := sis_list) l3 c3 k3
  have m3 := PySem.W.mg_of X G a3
  have F4 := fun_mk (st := sparse_expression) l4 c4 k4
  have m4 := PySem.W.mg_of X G a4
  have F5 := fun_mk (st := smay_follow) l5 c5 k5
  have m5 := PySem.W.mg_of X G a5
  have F6 := fun_mk (st := sread_mark) l6 c6 k6
  have m6 := PySem.W.mg_of X G a6
  have F7 := fun_mk (st := sname_end) l7 c7 k7
  have m7 := PySem.W.mg_of X G a7
  have F8 := fun_mk (st := sgroup_tree) l8 c8 k8
  have m8 := PySem.W.mg_of X G a8
  have F9 := fun_mk (st := srow_tree) l9 c9 k9
  have m9 := PySem.W.mg_of X G a9
  have F10 := fun_mk (st := sneeds_parentheses) l10 c10 k10
  have m10 := PySem.W.mg_of X G a10
  have F11 := fun_mk (st := splace_inside) l11 c11 k11
  have m11 := PySem.W.mg_of X G a11
  have F12 := fun_mk (st := sis_tree) l12 c12 k12
  have m12 := PySem.W.mg_of X G a12
  have F13 := fun_mk (st := sis_tree_at) l13 c13 k13
  have m13 := PySem.W.mg_of X G a13
  have F14 := fun_mk (st := sare_trees_at) l14 c14 k14
  have m14 := PySem.W.mg_of X G a14
  have F15 := fun_mk (st := srequire_tree) l15 c15 k15
  have m15 := PySem.W.mg_of X G a15
  have F16 := fun_mk (st := sexpression_text) l16 c16 k16
  have m16 := PySem.W.mg_of X G a16
  have F17 := fun_mk (st := swritten_at) l17 c17 k17
  have m17 := PySem.W.mg_of X G a17
  have F18 := fun_mk (st := swords_of) l18 c18 k18
  have m18 := PySem.W.mg_of X G a18
  have F19 := fun_mk (st := sletters_of) l19 c19 k19
  have m19 := PySem.W.mg_of X G a19
  have F20 := fun_mk (st := snames_of) l20 c20 k20
  have m20 := PySem.W.mg_of X G a20
  have F21 := fun_mk (st := swith_names) l21 c21 k21
  have m21 := PySem.W.mg_of X G a21
  have F22 := fun_mk (st := sis_tree_table) l22 c22 k22
  have m22 := PySem.W.mg_of X G a22
  have F23 := fun_mk (st := sreplaced) l23 c23 k23
  have m23 := PySem.W.mg_of X G a23
  have F24 := fun_mk (st := s_law_cell) l24 c24 k24
  have m24 := PySem.W.mg_of X G a24
  have F25 := fun_mk (st := s_law_box) l25 c25 k25
  have m25 := PySem.W.mg_of X G a25
  have F26 := fun_mk (st := s_law_take) l26 c26 k26
  have m26 := PySem.W.mg_of X G a26
  have F27 := fun_mk (st := s_law_tree) l27 c27 k27
  have m27 := PySem.W.mg_of X G a27
  have F28 := fun_mk (st := s_law_text) l28 c28 k28
  have m28 := PySem.W.mg_of X G a28
  have F29 := fun_mk (st := slaw) l29 c29 k29
  have m29 := PySem.W.mg_of X G a29
  have b0 := F0.binds (ps := ["value"]) fun _ _ _ _ _ _ us hl => match us, hl with | [_], _ => rfl
  have b1 := F1.binds (ps := ["value"]) fun _ _ _ _ _ _ us hl => match us, hl with | [_], _ => rfl
  have b2 := F2.binds (ps := ["value"]) fun _ _ _ _ _ _ us hl => match us, hl with | [_], _ => rfl
  have b3 := F3.binds (ps := ["value"]) fun _ _ _ _ _ _ us hl => match us, hl with | [_], _ => rfl
  have b4 := F4.binds (ps := ["text"]) fun _ _ _ _ _ _ us hl => match us, hl with | [_], _ => rfl
  have b5 := F5.binds (ps := ["mark", "before", "depth"]) fun _ _ _ _ _ _ us hl => match us, hl with | [_, _, _], _ => rfl
  have b6 := F6.binds (ps := ["groups", "mark"]) fun _ _ _ _ _ _ us hl => match us, hl with | [_, _], _ => rfl
  have b7 := F7.binds (ps := ["text", "start"]) fun _ _ _ _ _ _ us hl => match us, hl with | [_, _], _ => rfl
  have b8 := F8.binds (ps := ["rows"]) fun _ _ _ _ _ _ us hl => match us, hl with | [_], _ => rfl
  have b9 := F9.binds (ps := ["items"]) fun _ _ _ _ _ _ us hl => match us, hl with | [_], _ => rfl
  have b10 := F10.binds (ps := ["kind", "place"]) fun _ _ _ _ _ _ us hl => match us, hl with | [_, _], _ => rfl
  have b11 := F11.binds (ps := ["kind"]) fun _ _ _ _ _ _ us hl => match us, hl with | [_], _ => rfl
  have b12 := F12.binds (ps := ["value"]) fun _ _ _ _ _ _ us hl => match us, hl with | [_], _ => rfl
  have b13 := F13.binds (ps := ["value", "place", "room"]) fun _ _ _ _ _ _ us hl => match us, hl with | [_, _, _], _ => rfl
  have b14 := F14.binds (ps := ["value", "place", "room"]) fun _ _ _ _ _ _ us hl => match us, hl with | [_, _, _], _ => rfl
  have b15 := F15.binds (ps := ["value"]) fun _ _ _ _ _ _ us hl => match us, hl with | [_], _ => rfl
  have b16 := F16.binds (ps := ["tree"]) fun _ _ _ _ _ _ us hl => match us, hl with | [_], _ => rfl
  have b17 := F17.binds (ps := ["tree", "place"]) fun _ _ _ _ _ _ us hl => match us, hl with | [_, _], _ => rfl
  have b18 := F18.binds (ps := ["tree", "kind"]) fun _ _ _ _ _ _ us hl => match us, hl with | [_, _], _ => rfl
  have b19 := F19.binds (ps := ["tree"]) fun _ _ _ _ _ _ us hl => match us, hl with | [_], _ => rfl
  have b20 := F20.binds (ps := ["tree"]) fun _ _ _ _ _ _ us hl => match us, hl with | [_], _ => rfl
  have b21 := F21.binds (ps := ["tree", "table"]) fun _ _ _ _ _ _ us hl => match us, hl with | [_, _], _ => rfl
  have b22 := F22.binds (ps := ["value"]) fun _ _ _ _ _ _ us hl => match us, hl with | [_], _ => rfl
  have b23 := F23.binds (ps := ["tree", "table"]) fun _ _ _ _ _ _ us hl => match us, hl with | [_, _], _ => rfl
  have b24 := F24.binds (ps := ["_law_script", "_law_k"]) fun _ _ _ _ _ _ us hl => match us, hl with | [_, _], _ => rfl
  have b25 := F25.binds (ps := ["_law_cell_here"]) fun _ _ _ _ _ _ us hl => match us, hl with | [_], _ => rfl
  have b26 := F26.binds (ps := ["_law_box_here", "_law_many"]) fun _ _ _ _ _ _ us hl => match us, hl with | [_, _], _ => rfl
  have b27 := F27.binds (ps := ["_law_box_here", "_law_letters", "_law_names"]) fun _ _ _ _ _ _ us hl => match us, hl with | [_, _, _], _ => rfl
  have b28 := F28.binds (ps := ["_law_root", "_law_wanted"]) fun _ _ _ _ _ _ us hl => match us, hl with | [_, _], _ => rfl
  have bk4 : ∃ g, KBn K (PySem.W.fnOf "parse_expression" "parse_expression" (defArgs sparse_expression) (defBody sparse_expression) (defScope sparse_expression) .none kV4 dc4 pm4 an4 cd4 ct4) ["text"] 0 ["text"] g (fun _ zs => zs) :=
    ⟨fun _ ws => ws, ⟨fun s us ws X l1 l2 => match us, ws, l1, l2 with | [], [u], _, _ => BindsTo.of_eq rfl, fun _ r2 => r2⟩⟩
  have bk16 : ∃ g, KBn K (PySem.W.fnOf "expression_text" "expression_text" (defArgs sexpression_text) (defBody sexpression_text) (defScope sexpression_text) .none kV16 dc16 pm16 an16 cd16 ct16) ["tree"] 0 ["tree"] g (fun _ zs => zs) :=
    ⟨fun _ ws => ws, ⟨fun s us ws X l1 l2 => match us, ws, l1, l2 with | [], [u], _, _ => BindsTo.of_eq rfl, fun _ r2 => r2⟩⟩
  have bk12 : ∃ g, KBn K (PySem.W.fnOf "is_tree" "is_tree" (defArgs sis_tree) (defBody sis_tree) (defScope sis_tree) .none kV12 dc12 pm12 an12 cd12 ct12) ["value"] 0 ["value"] g (fun _ zs => zs) :=
    ⟨fun _ ws => ws, ⟨fun s us ws X l1 l2 => match us, ws, l1, l2 with | [], [u], _, _ => BindsTo.of_eq rfl, fun _ r2 => r2⟩⟩
  have bk19 : ∃ g, KBn K (PySem.W.fnOf "letters_of" "letters_of" (defArgs sletters_of) (defBody sletters_of) (defScope sletters_of) .none kV19 dc19 pm19 an19 cd19 ct19) ["tree"] 0 ["tree"] g (fun _ zs => zs) :=
    ⟨fun _ ws => ws, ⟨fun s us ws X l1 l2 => match us, ws, l1, l2 with | [], [u], _, _ => BindsTo.of_eq rfl, fun _ r2 => r2⟩⟩
  have bk20 : ∃ g, KBn K (PySem.W.fnOf "names_of" "names_of" (defArgs snames_of) (defBody snames_of) (defScope snames_of) .none kV20 dc20 pm20 an20 cd20 ct20) ["tree"] 0 ["tree"] g (fun _ zs => zs) :=
    ⟨fun _ ws => ws, ⟨fun s us ws X l1 l2 => match us, ws, l1, l2 with | [], [u], _, _ => BindsTo.of_eq rfl, fun _ r2 => r2⟩⟩
  have bk21 : ∃ g, KBn K (PySem.W.fnOf "with_names" "with_names" (defArgs swith_names) (defBody swith_names) (defScope swith_names) .none kV21 dc21 pm21 an21 cd21 ct21) ["tree", "table"] 0 ["table", "tree"] g (fun _ zs => zs.reverse) :=
    ⟨fun _ ws => ws.reverse, ⟨fun s us ws X l1 l2 => match us, ws, l1, l2 with | [], [u, z], _, _ => BindsTo.of_eq rfl, fun _ r2 => r2.reverse⟩⟩
  refine ⟨PySem.W.fnOf "law" "law" (defArgs slaw) (defBody slaw) (defScope slaw) .none kV29 dc29 pm29 an29 cd29 ct29, fun s u => .of_eq rfl, fun base _ _ hs => ?_⟩
  have zN : ∀ {x : Str}, PySem.W.nsIn K mainGlobals x = some none → mg x = none := fun h => PySem.W.mg_none_of X G h
  have T : Txt w K mg base aS aL eS nS := { sys := hs, q_LISTED := fun H => .inr ⟨_, _, _, lT, rfl, rfl, (by show 2 ≤ sizeLine; decide), .cons ⟨_, rfl⟩ (.cons ⟨_, rfl⟩ .nil)⟩, g_LISTED := ⟨_, PySem.W.mg_of X G gT, rfl⟩, g_SIGNS_BY_KIND := ⟨_, PySem.W.mg_of X G gS, rfl⟩, d_SIGNS_BY_KIND := ⟨lS, kS, wS⟩, i_SIGNS_BY_KIND := sgn_in sS0 sS1 sS2 oS0 oS1 oS2 oS3 oS4 oS5, g_LONGEST_NAME := ⟨_, PySem.W.mg_of X G gL, ⟨_, rfl⟩⟩, g_MOST_OPEN := ⟨_, PySem.W.mg_of X G gM, ⟨_, rfl⟩⟩, g_WHOLE := ⟨_, PySem.W.mg_of X G gW, ⟨_, rfl⟩⟩, g_ROW := ⟨_, PySem.W.mg_of X G gR, ⟨_, rfl⟩⟩, g_ITEM := ⟨_, PySem.W.mg_of X G gI, ⟨_, rfl⟩⟩, g_OPERAND := ⟨_, PySem.W.mg_of X G gO, ⟨_, rfl⟩⟩, z_isinstance := zN z_isinstance, z_str := zN z_str, z_list := zN z_list, z_tuple := zN z_tuple, z_len := zN z_len, z_all := zN z_all }
  have TP : TxP w K mg aK #[eK0, eK1, eK2] nK := { g_KINDS_BY_SIGN := ⟨_, PySem.W.mg_of X G gK, rfl⟩, d_KINDS_BY_SIGN := ⟨lK, kK, wK⟩, i_KINDS_BY_SIGN := sig_in lK hK0 hK1 hK2, v_KINDS_BY_SIGN := tx_in (x := sgTx) (y := sSgn) sK0 sK1 sK2 }
  have vS := tx_in (K := K) (a := aS) (x := sSgn) (y := sgTx) sS0 sS1 sS2
  have D0 : Df P w K mg base CX0 1 "is_letter" _ _ ["value"] (spAsk isLet) := ⟨ok_isletter F0 T, m0, k0, b0⟩
  have D1 : Df P w K mg base CX0 1 "is_text" _ _ ["value"] (spAsk isTxt) := ⟨ok_istext F1 T, m1, k1, b1⟩
  have D2 : Df P w K mg base CX0 2 "is_name" _ _ ["value"] (spAsk isNam) := ⟨ok_isname F2 T D1, m2, k2, b2⟩
  have D3 : Df P w K mg base CX0 1 "is_list" _ _ ["value"] spIsList := ⟨ok_islist F3 T, m3, k3, b3⟩
  have D9 : Df P w K mg base CX0 1 "row_tree" _ _ ["items"] spRow := ⟨ok_row F9 T, m9, k9, b9⟩
  have D8 : Df P w K mg base CX0 2 "group_tree" _ _ ["rows"] spGroup := ⟨ok_group F8 T D9, m8, k8, b8⟩
  have D5 : Df P w K mg base CX0 2 "may_follow" _ _ ["mark", "before", "depth"] spMay := ⟨ok_may F5 T TP D0, m5, k5, b5⟩
  have D6 : Df P w K mg base CX0 3 "read_mark" _ _ ["groups", "mark"] spRead := ⟨ok_read F6 TP D8, m6, k6, b6⟩
  have D7 : Df P w K mg base (L2.CX P w) 2 "name_end" _ _ ["text", "start"] spEnd := ⟨ok_end F7 T D0, m7, k7, b7⟩
  have G4 := parse_tree (P := P) (w := w) (ok_parse F4 T D7 D5 D6 D8)
  have D4 : Df P w K mg base (L2.CX P w) 4 "parse_expression" _ _ ["text"] spParseT := ⟨G4, m4, k4, b4⟩
  have D10 : Df P w K mg base CX0 1 "needs_parentheses" _ _ ["kind", "place"] spNeeds := ⟨ok_needs F10 T, m10, k10, b10⟩
  have D11 : Df P w K mg base CX0 1 "place_inside" _ _ ["kind"] spPlace := ⟨ok_place F11 T, m11, k11, b11⟩
  have A := all_treeat (P := P) F13 F14 T D0 D2 D10 D11 D3 m13 k13 b13 m14 k14 b14
  have E13 : Df P w K mg base CX0 (2 + 2 * 41) "is_tree_at" _ _ ["value", "place", "room"] (spAt 41) := ⟨A 41, m13, k13, b13⟩
  have E14 : Df P w K mg base CX0 (2 + 2 * 41 + 1) "are_trees_at" _ _ ["value", "place", "room"] (spsAt 41) := ⟨ok_aretrees F14 T D3 E13, m14, k14, b14⟩
  have N13 := ok_noat F13 T D0 D2 D10 D11 E14 E13
  have G13 : FnG P w K mg base CX0 86 f13 _ ["value", "place", "room"] (fun vs H Q E => spAt 42 vs H Q E ∨ spNoAt vs H Q E) := ((A 42).mono (by decide)).or (N13.mono (by decide))
  have D13 : Df P w K mg base CX0 86 "is_tree_at" _ _ ["value", "place", "room"] (fun vs H Q E => spAt 42 vs H Q E ∨ spNoAt vs H Q E) := ⟨G13, m13, k13, b13⟩
  have G12 := ok_istree F12 T D13
  have D12 : Df P w K mg base CX0 87 "is_tree" _ _ ["value"] spIsTree := ⟨G12, m12, k12, b12⟩
  have D15 : Df P w K mg base (L2.CX P w) 88 "require_tree" _ _ ["value"] spRequire := ⟨ok_require F15 D12, m15, k15, b15⟩
  have D17 : Df P w K mg base CX0 44 "written_at" _ _ ["tree", "place"] (spWr 42) := ⟨(all_written F17 T vS D10 D11 m17 k17 b17 42).mono (by decide), m17, k17, b17⟩
  have G16 := ok_text (P := P) (w := w) F16 T D15 D17
  have D18 : Df P w K mg base CX0 1 "words_of" _ _ ["tree", "kind"] spWords := ⟨ok_words F18 T, m18, k18, b18⟩
  have G19 := ok_letters (P := P) (w := w) F19 T (zN z_set) (zN z_sorted) D15 D18
  have G20 := ok_names (P := P) (w := w) F20 T (zN z_set) (zN z_sorted) D15 D18
  have D22 : Df P w K mg base CX0 88 "is_tree_table" _ _ ["value"] spTab := ⟨ok_tab F22 T (zN z_dict) D2 D12, m22, k22, b22⟩
  have D23 : Df P w K mg base CX0 42 "replaced" _ _ ["tree", "table"] (spRep 42) := ⟨all_replaced F23 T m23 k23 b23 42, m23, k23, b23⟩
  have G21 := ok_with (P := P) (w := w) F21 T D15 D22 D18 D23
  have D24 : Df P w K mg base CX0 1 "_law_cell" _ _ ["_law_script", "_law_k"] (spScr K) := ⟨ok_cell F24 T, m24, k24, b24⟩
  have D25 : Df P w K mg base CX0 1 "_law_box" _ _ ["_law_cell_here"] spBoxC := ⟨ok_box F25 (zN z_max), m25, k25, b25⟩
  have D26 : Df P w K mg base CX0 1 "_law_take" _ _ ["_law_box_here", "_law_many"] spTakeC := ⟨ok_take F26, m26, k26, b26⟩
  have D27 : Df P w K mg base CX0 2 "_law_tree" _ _ ["_law_box_here", "_law_letters", "_law_names"] spTree := ⟨ok_tree F27 T (zN z_range) D26, m27, k27, b27⟩
  have D28 : Df P w K mg base CX0 23 "_law_text" _ _ ["_law_root", "_law_wanted"] (spTxt 21) := ⟨(all_ltext F28 T m28 k28 b28 21).mono (by decide), m28, k28, b28⟩
  exact ok_law F29 T (zN z_range) (zN z_max) (zN z_min) (zN z_repr) (zN z_int) D24 D25 D27 D28 D4 ⟨G4, m4, k4, bk4⟩ ⟨G16, m16, k16, bk16⟩ ⟨G12, m12, k12, bk12⟩ ⟨G19, m19, k19, bk19⟩ ⟨G20, m20, k20, bk20⟩ ⟨G21, m21, k21, bk21⟩
theorem walk {l : PySem.W.OpenLaw} {q : Program} {loose : List Str} {XP : (Str → Option Value) → Heap → Prop} {YP : World → Heap → Prop} {d : DefRec} {K : Params → PySem.W.Frag} (hn : l.most = some 63) (hdf : d.params.defaults = []) (himp : importsNone q = true)
    (hY : ∀ (w : World) (h : Heap), YP w h → (K w.params).In h)
    (F : ∀ (w : World) (mg : Str → Option Value) (fa : Addr) (h : Heap), (K w.params).In h → h.Ns mainGlobals mg → mg d.name = some (.ref fa) →
      ∃ fd : FuncData, (∀ (s : Shared) (u : Value), BindsTo s fd ⟨[u], []⟩ [("_law_script", u)]) ∧ ∀ base : Heap, (K w.params).In base → base.Ns mainGlobals mg → SysIn base → FnG l.prog w (K w.params) mg base CX0 90 fa fd ["_law_script"] (spLaw (K w.params))) :
    PySem.W.WalkO q loose XP YP l.row.toRowW d [] (fun f vs => PySem.call f vs) :=
  Gd.walkG (n := 63) (k := 90) (x := "_law_script") (CX := fun _ => CX0) (sp := fun w => spLaw (K w.params)) hn (by decide) hdf ⟨rfl, by decide, by decide⟩ himp hY F
    (fun _ _ a ns hl _ hS => ⟨a, ns, rfl, hS, hl, fun _ => rfl⟩) fun _ _ _ _ _ z => z
end KT
open PySem PySem.W PyProof.Rows
set_option maxRecDepth 100000 in
set_option maxHeartbeats 0 in
theorem PySem.Challenge.cw_formatrepair_k09_arguments_by_name_holds : PySem.Challenge.rw_formatrepair_k09_arguments_by_name.Holds := by
  w_on; o_law; k_head; (case hw => w_witness2)
  k_fill
  refine KT.walk (l := PySem.Challenge.rw_formatrepair_k09_arguments_by_name) rfl rfl rfl (fun w h Y => PySem.W.kIn_of Y) ?F
  case F =>
    intro w mg fa h KX G hmg
    refine' KT.all_mk KX G hmg ?a0 ?l0 ?c0 ?k0 ?a1 ?l1 ?c1 ?k1 ?a2 ?l2 ?c2 ?k2 ?a3 ?l3 ?c3 ?k3 ?a4 ?l4 ?c4 ?k4 ?a5 ?l5 ?c5 ?k5 ?a6 ?l6 ?c6 ?k6 ?a7 ?l7 ?c7 ?k7 ?a8 ?l8 ?c8 ?k8 ?a9 ?l9 ?c9 ?k9 ?a10 ?l10 ?c10 ?k10 ?a11 ?l11 ?c11 ?k11 ?a12 ?l12 ?c12 ?k12 ?a13 ?l13 ?c13 ?k13 ?a14 ?l14 ?c14 ?k14 ?a15 ?l15 ?c15 ?k15 ?a16 ?l16 ?c16 ?k16 ?a17 ?l17 ?c17 ?k17 ?a18 ?l18 ?c18 ?k18 ?a19 ?l19 ?c19 ?k19 ?a20 ?l20 ?c20 ?k20 ?a21 ?l21 ?c21 ?k21 ?a22 ?l22 ?c22 ?k22 ?a23 ?l23 ?c23 ?k23 ?a24 ?l24 ?c24 ?k24 ?a25 ?l25 ?c25 ?k25 ?a26 ?l26 ?c26 ?k26 ?a27 ?l27 ?c27 ?k27 ?a28 ?l28 ?c28 ?k28 ?a29 ?l29 ?c29 ?k29 ?gL ?gM ?gW ?gR ?gI ?gO ?gS ?lS ?kS ?wS ?sS0 ?sS1 ?sS2 ?oS0 ?oS1 ?oS2 ?oS3 ?oS4 ?oS5 ?gK ?lK ?kK ?wK ?hK0 ?sK0 ?hK1 ?sK1 ?hK2 ?sK2 ?gT ?lT ?z_isinstance ?z_str ?z_list ?z_tuple ?z_len ?z_all ?z_set ?z_sorted ?z_dict ?z_range ?z_max ?z_min ?z_repr ?z_int
    (case a0 => k_is)
    (case l0 => k_is)
    (case c0 => k_is)
    (case k0 => k_is)
    (case a1 => k_is)
    (case l1 => k_is)
    (case c1 => k_is)
    (case k1 => k_is)
    (case a2 => k_is)
    (case l2 => k_is)
    (case c2 => k_is)
    (case k2 => k_is)
    (case a3 => k_is)
    (case l3 => k_is)
    (case c3 => k_is)
    (case k3 => k_is)
    (case a4 => k_is)
    (case l4 => k_is)
    (case c4 => k_is)
    (case k4 => k_is)
    (case a5 => k_is)
    (case l5 => k_is)
    (case c5 => k_is)
    (case k5 => k_is)
    (case a6 => k_is)
    (case l6 => k_is)
    (case c6 => k_is)
    (case k6 => k_is)
    (case a7 => k_is)
    (case l7 => k_is)
    (case c7 => k_is)
    (case k7 => k_is)
    (case a8 => k_is)
    (case l8 => k_is)
    (case c8 => k_is)
    (case k8 => k_is)
    (case a9 => k_is)
    (case l9 => k_is)
    (case c9 => k_is)
    (case k9 => k_is)
    (case a10 => k_is)
    (case l10 => k_is)
    (case c10 => k_is)
    (case k10 => k_is)
    (case a11 => k_is)
    (case l11 => k_is)
    (case c11 => k_is)
    (case k11 => k_is)
    (case a12 => k_is)
    (case l12 => k_is)
    (case c12 => k_is)
    (case k12 => k_is)
    (case a13 => k_is)
    (case l13 => k_is)
    (case c13 => k_is)
    (case k13 => k_is)
    (case a14 => k_is)
    (case l14 => k_is)
    (case c14 => k_is)
    (case k14 => k_is)
    (case a15 => k_is)
    (case l15 => k_is)
    (case c15 => k_is)
    (case k15 => k_is)
    (case a16 => k_is)
    (case l16 => k_is)
    (case c16 => k_is)
    (case k16 => k_is)
    (case a17 => k_is)
    (case l17 => k_is)
    (case c17 => k_is)
    (case k17 => k_is)
    (case a18 => k_is)
    (case l18 => k_is)
    (case c18 => k_is)
    (case k18 => k_is)
    (case a19 => k_is)
    (case l19 => k_is)
    (case c19 => k_is)
    (case k19 => k_is)
    (case a20 => k_is)
    (case l20 => k_is)
    (case c20 => k_is)
    (case k20 => k_is)
    (case a21 => k_is)
    (case l21 => k_is)
    (case c21 => k_is)
    (case k21 => k_is)
    (case a22 => k_is)
    (case l22 => k_is)
    (case c22 => k_is)
    (case k22 => k_is)
    (case a23 => k_is)
    (case l23 => k_is)
    (case c23 => k_is)
    (case k23 => k_is)
    (case a24 => k_is)
    (case l24 => k_is)
    (case c24 => k_is)
    (case k24 => k_is)
    (case a25 => k_is)
    (case l25 => k_is)
    (case c25 => k_is)
    (case k25 => k_is)
    (case a26 => k_is)
    (case l26 => k_is)
    (case c26 => k_is)
    (case k26 => k_is)
    (case a27 => k_is)
    (case l27 => k_is)
    (case c27 => k_is)
    (case k27 => k_is)
    (case a28 => k_is)
    (case l28 => k_is)
    (case c28 => k_is)
    (case k28 => k_is)
    (case a29 => k_is)
    (case l29 => k_is)
    (case c29 => k_is)
    (case k29 => k_is)
    (case gL => k_is)
    (case gM => k_is)
    (case gW => k_is)
    (case gR => k_is)
    (case gI => k_is)
    (case gO => k_is)
    (case gS => k_is)
    (case lS => k_is)
    (case kS => k_keys)
    (case wS => first | rfl | decide +kernel | k_is)
    (case sS0 => k_is)
    (case sS1 => k_is)
    (case sS2 => k_is)
    (case oS0 => k_is)
    (case oS1 => k_is)
    (case oS2 => k_is)
    (case oS3 => k_is)
    (case oS4 => k_is)
    (case oS5 => k_is)
    (case gK => k_is)
    (case lK => k_is)
    (case kK => k_keys)
    (case wK => first | rfl | decide +kernel | k_is)
    (case hK0 => rfl)
    (case sK0 => k_is)
    (case hK1 => rfl)
    (case sK1 => k_is)
    (case hK2 => rfl)
    (case sK2 => k_is)
    (case gT => k_is)
    (case lT => k_is)
    (case z_isinstance => k_is)
    (case z_str => k_is)
    (case z_list => k_is)
    (case z_tuple => k_is)
    (case z_len => k_is)
    (case z_all => k_is)
    (case z_set => k_is)
    (case z_sorted => k_is)
    (case z_dict => k_is)
    (case z_range => k_is)
    (case z_max => k_is)
    (case z_min => k_is)
    (case z_repr => k_is)
    (case z_int => k_is)
