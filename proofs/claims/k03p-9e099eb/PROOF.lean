import PyProof.Rows.All
import Wide.All
import OpenK.AllK
import Wide.FinOn
import PyProof.ReprRoads
import HandS.Base
import HandS.Call
import HandS.List
import HandS.Dict
import HandS.Ends
import HandS.Words
import HandS.Exc
import HandS.ExcOwn
import HandS.TryOnly
import HandS.TryMany
import HandS.Defaults
import PyProof.StrLawsRepr
import HandS.Wide
import HandS.Comp
import HandS.Iter
import HandS.Text
import HandS.More
import HandS.Style
import HandS.StrMore
import HandS.IsInst
import HandS.Replace
import HandS.RaiseMore
import HandS.WordsList
import HandS.WordsDict
import HandS.WordsExc
import HandS.Walk
import HandS.Codes
import PyProof.Rows.StrFin3
import HandS.ReplaceList
import HandS.ReplaceLit
import PyProof.StrReplace2
import KE.KDictPairs
import PySem.Challenge.RW_formatrepair_k03_words_of_lines
set_option Elab.async false
set_option linter.all false
set_option maxRecDepth 100000
set_option maxHeartbeats 4000000
namespace Gd
open PySem PySem.Spec PyProof.Rows L2
/-- no repr is under way -/
def Clean (A : Around) : Prop := A.guards = some []
/-- a contract that holds where no repr is under way -/
structure FnG (P : Program) (w : World) (K : PySem.W.Frag) (mg : Str → Option Value) (base : Heap) (CX : CXT) (k : Nat) (f : Addr) (fd : FuncData) (ps : List Str) (sp : Sp) : Prop where
  len : ∀ vs H Q E, sp vs H Q E → vs.length = ps.length
  run : ∀ (A : Around) (outer : List Env) (s : Shared) (H : Hp) (args : Args) (us : List Value) (vs : List V) (Q : VK) (E : XK), Clean A → Room k A →
    Env0 P w K mg base A outer s H → BindsTo s fd args (ps.zip us) → Vals vs us → sp vs H Q E →
    codeAny (model P w) A (.call (.ref f) args) (CR CX outer P w H s Q E) s
section
variable {P : Program} {w : World} {K : PySem.W.Frag} {mg : Str → Option Value} {base : Heap} {CX : CXT} {k j : Nat} {f : Addr} {fd : FuncData} {ps : List Str} {sp : Sp}
theorem FnG.of (F : FnOk P w K mg base CX k f fd ps sp) : FnG P w K mg base CX k f fd ps sp :=
  ⟨F.len, fun A outer s H args us vs Q E _ hr e0 hb r h => F.run A outer s H args us vs Q E hr e0 hb r h⟩
theorem FnG.mono (F : FnG P w K mg base CX j f fd ps sp) (h : j ≤ k) : FnG P w K mg base CX k f fd ps sp :=
  ⟨F.len, fun A outer s H args us vs Q E hc hr e0 hb r q => F.run A outer s H args us vs Q E hc (hr.mono h) e0 hb r q⟩
/-- a def of the text keeps its contract: its body as rules, and their reading -/
theorem okG {CX : CXT} {x qual : Str} {st : Stmt} {N : List Str} (F : Fun K x qual st f fd) (S : FnScope N ps (defScope st)) (len : ∀ vs H Q E, sp vs H Q E → vs.length = ps.length)
    (hbody : ∀ (cdv : Value) (A : Around) (outer : List Env) (s : Shared) (H : Hp) (vs : List V) (Q : VK) (E : XK), Clean A → Room k (A.deeper (envOfC qual (defScope st) s.heap.objs.size f cdv)) → sp vs H Q E →
      ∃ t, PSs (cxOf CX P w K mg base N qual (defScope st) f cdv A outer s H E) (defBody st) t ∧ t { nx := fun _ H' => Q .non H', rt := Q } (start N vs) H) : FnG P w K mg base CX (k + 1) f fd ps sp := by
  obtain ⟨oc, od, kV, doc, pm, an, cdv, ct, osl, efd, lk, hcd⟩ := F.ex
  subst efd
  refine ⟨len, fun A outer s H args us vs Q E hc hr e0 hb r hsp => ?_⟩
  have bk : ∀ b o, base.get? b = some o → s.heap.get? b = some o := fun b o e => (e0.bs b o e).1
  have KX : K.In s.heap := e0.mod.kin.keeps bk
  have hkind : ∀ y ∈ ps.zip us, (defScope st).names.lookup y.1 = some .local ∨ ((defScope st).names.lookup y.1 = some .cell ∧ ((cellsFrom (s.heap.objs.size + 1) (defScope st).names []).lookup y.1).isSome = true) := by
    rintro ⟨n, v⟩ hy
    exact (S.par n (List.of_mem_zip hy).1).imp id fun q => ⟨q, PySem.W.cellsFrom_some _ _ _ (.inl q)⟩
  refine codeAny_call_function hr.depth (KX _ _ lk) rfl S.co S.gen rfl (PySem.W.codeRec_of KX hcd) (hb _ _ _ _ (wpAny_newFunctionEnv_cells S.kind hkind ?_))
  intro env he s1 x
  subst he
  refine ⟨(e0.mod.nolimit.keeps bk).keeps x.toInCall.keep, codeAny_func ?_⟩
  obtain ⟨t, ht, hq⟩ := hbody cdv A outer s H vs Q E hc (hr.deeper _) hsp
  have I := inv_start (CX := CX) (E := E) S hr.hd e0 (len _ _ _ _ hsp) r x
  refine wpAny_mono (ht.run [] s1 (start N vs) H _ I hq) (fun fl s' hs => ?_) fun _ _ z => z
  match fl, hs with
  | .ret u, ⟨v, σ', H', J, rv, q⟩ => exact ⟨v, H', J.os, J.bare, J.base, J.hok, rv, q⟩
  | .next, ⟨σ', H', J, q⟩ => exact ⟨V.non, H', J.os, J.bare, J.base, J.hok, rfl, q⟩
  | .brk, ⟨_, _, _, q⟩ => exact q.elim
  | .cont, ⟨_, _, _, q⟩ => exact q.elim
end
section
variable {X : Cx} {CX : CXT} {k : Nat} {f : Addr} {fd : FuncData} {ps ks : List Str} {sp : Sp} {dvs : List V} {ds : List Value} {E : XK} {x : Str} {p pos : Pos} {e : Expr} {es : List Expr} {t tk : TA} {kws : List Keyword}
theorem runG {pins : List (Addr × Obj)} {σ : L2.St} {H : Hp} {s : Shared} {Q : VK} {us : List Value} {vs : List V} (F : FnG X.prog X.w X.K X.mg X.base CX k f fd ps sp) (hc : Clean X.A) (hr : Room k X.A)
    (hb : Binds X.K fd ps ds) (hd : Vals dvs ds) (hx : Passes CX X E) (I : Inv X pins σ H s) (r : Vals vs us) (h : sp (vs ++ dvs) H Q E) :
    wpAny (model X.prog X.w) X.A (call (.ref f) us) (EP X pins σ Q) X.xe s := by
  have r2 := r.append hd
  have hl : (us ++ ds).length = ps.length := r2.length ▸ F.len _ _ _ _ h
  refine wpAny_call (codeAny_mono (F.run X.A X.stack s H ⟨us, []⟩ (us ++ ds) (vs ++ dvs) Q E hc hr I.env0 (hb s us I.kIn hl) r2 h) ?_)
  intro r s' hq
  match r, hq with
  | .error e, hq => exact hx pins σ H s e s' I hq
  | .ok (.ret u), hq => exact I.after hq
  | .ok .next, hq => exact False.elim hq
  | .ok .brk, hq => exact False.elim hq
  | .ok .cont, hq => exact False.elim hq
theorem pe_callG (F : FnG X.prog X.w X.K X.mg X.base CX k f fd ps sp) (hc : Clean X.A) (hr : Room k X.A) (hg : Gl X x) (hm : X.mg x = some (.ref f)) (hk : PySem.W.keepIn X.K (.ref f) = true)
    (hb : Binds X.K fd ps ds) (hd : Vals dvs ds) (hx : Passes CX X E) (ha : PA X (e :: es) t) (hdb : (x == ("__debug__" : Str)) = false := by decide)
    (he : starEach (e :: es) X.env = (false, eval e X.env) :: starEach es X.env := by rfl) (hpl : (backTo pos (starEach es X.env)).any (·.1) = false := by rfl) :
    PE X (.Call (.Name x p) (e :: es) [] pos) (tCall sp dvs E t) := by
  refine ⟨fun pins s σ H Q I h => wpAny_Call_Name_kw (ld_glob I hg hm ?_ hdb)⟩
  exact PySem.W.callWith_K (h₀ := X.base) I.ok.mod.kin hk (thn (ha.run pos pins s σ H _ I h) fun us s1 ⟨vs, H1, I1, r, q⟩ => ⟨I1.kIn, runG F hc hr hb hd hx I1 r q⟩) he hpl
end

/-! the end of a law -/
section
variable {P : Program} {w : World} {K : PySem.W.Frag} {mg mb : Str → Option Value} {CX : CXT} {k : Nat} {fa a : Addr} {fd : FuncData} {x : Str} {sp : Sp} {s : Shared} {vs : List Value} {ns : List Int}
/-- the table of modules stands in the fixed part -/
abbrev SysIn (base : Heap) : Prop := ∃ o, base.get? sysModules = some o
abbrev scriptObj (vs : List Value) : Obj := { cls := .type "list", data := .seq vs.toArray }
abbrev Done (s : Shared) (r : Result) (s' : Shared) : Prop := r = .ok (.ret (.bool true)) ∧ OldK s.heap s'.heap ∧ s'.os = s.os ∧ AllBare s'.gens
/-- from a heap in which the script alone may be tracked -/
theorem law_core (KX : K.In s.heap) (hns : s.heap.Ns mainGlobals mg) (hb : s.heap.Ns builtinsNs mb) (hbb : ∀ x : Str, x ≠ "__name__" → mb x = bootBuiltins x) (hlim : s.heap.NoLimit) (hsy : ∃ mm, s.heap.Ns sysModules mm) (hg : s.gens = #[])
    (ha : s.heap.get? a = some (scriptObj vs)) (hr : Room k callerA)
    (F : ∀ base : Heap, K.In base → base.Ns mainGlobals mg → SysIn base → FnG P w K mg base CX k fa fd [x] sp) (hbind : ∀ (s : Shared) (u : Value), BindsTo s fd ⟨[u], []⟩ [(x, u)])
    (H : Hp) (hO : Only H) (hok : HOk P w H s.heap) (hA : ∀ b, H b ≠ none → b = a) (hK : H a ≠ none → K.lookup a = none)
    (hsp : sp [.ref a] H (fun v _ => v = .bl true) fun _ _ _ => False) (hCX : ∀ e s', CX [] H s (fun _ _ _ => False) e s' → False) :
    codeAny (model P w) callerA (.call (.ref fa) ⟨[.ref a], []⟩) (Done s) s := by
  have notA : ∀ {b : Addr}, b ≠ a → H b = none := fun {b} hb => Classical.byContradiction fun q => hb (hA b q)
  have nsA : ∀ {b : Addr} {m : Str → Option Value}, s.heap.Ns b m → (hidT s.heap H).Ns b m := by
    rintro b m ⟨o, es, ep, e, d, r⟩
    have hb : b ≠ a := by
      rintro rfl
      rw [ha] at e
      cases e
      exact nomatch (d : Data.seq vs.toArray _ = Data.dict es ep)
    exact ⟨o, es, ep, hidT_get e (notA hb), d, r⟩
  have inB : K.In (hidT s.heap H) := fun b o e => hidT_get (KX b o e) (Classical.byContradiction fun q => by
    have hb := hA b q
    subst hb
    rw [hK q] at e
    exact nomatch e)
  have md : Mod K mg (hidT s.heap H) := ⟨inB, nsA hns, ⟨mb, nsA hb, hbb⟩, hlim.imp fun _ h => ⟨nsA h.1, h.2⟩⟩
  have e0 : Env0 P w K mg (hidT s.heap H) callerA [] s H :=
    ⟨rfl, md, fun b o e => of_hidT e, Nat.le_of_eq (hidT_size _ _), trivial, fun _ hb => absurd hb List.not_mem_nil, hok, .of_eq hg⟩
  have R := (F _ inB (nsA hns) (let ⟨_, q⟩ := hsy; let ⟨o, _, _, e, _⟩ := nsA q; ⟨o, e⟩)).run callerA [] s H ⟨[.ref a], []⟩ [.ref a] [.ref a] _ _ rfl hr e0 (hbind s (.ref a)) (.cons rfl .nil) hsp
  refine codeAny_mono R fun r s' h => ?_
  match r, h with
  | .error e, h => exact (hCX e s' h).elim
  | .ok .next, h => exact False.elim h
  | .ok .brk, h => exact False.elim h
  | .ok .cont, h => exact False.elim h
  | .ok (.ret u), ⟨v, H', os, bare, un, hok', r', q⟩ =>
    have q' : v = .bl true := q
    subst q'
    cases (show u = Value.bool true from r')
    refine ⟨rfl, OldK.of_keep fun b o e => ?_, os, bare⟩
    rcases hO b with z | ⟨ob, xs, z⟩
    · exact un.keep b o e z List.not_mem_nil (by simp)
    · have e1 := (hok b _ z).1
      have e2 := (hok' b _ (un.frzs b ob _ z)).1
      rw [e] at e1
      cases e1
      exact e2
theorem law_callG (KX : K.In s.heap) (hns : s.heap.Ns mainGlobals mg) (hb : s.heap.Ns builtinsNs mb) (hbb : ∀ x : Str, x ≠ "__name__" → mb x = bootBuiltins x) (hlim : s.heap.NoLimit) (hsy : ∃ mm, s.heap.Ns sysModules mm) (hg : s.gens = #[])
    (ha : s.heap.get? a = some (scriptObj vs)) (hi : IntsAre vs ns) (hl : ns.length ≤ sizeLine) (hr : Room k callerA)
    (F : ∀ base : Heap, K.In base → base.Ns mainGlobals mg → SysIn base → FnG P w K mg base CX k fa fd [x] sp) (hbind : ∀ (s : Shared) (u : Value), BindsTo s fd ⟨[u], []⟩ [(x, u)])
    (hsp : ∀ H : Hp, Only H → SqL K H a (ns.map V.int) → sp [.ref a] H (fun v _ => v = .bl true) fun _ _ _ => False) (hCX : ∀ H e s', CX [] H s (fun _ _ _ => False) e s' → False) :
    codeAny (model P w) callerA (.call (.ref fa) ⟨[.ref a], []⟩) (Done s) s := by
  have rv := vals_ints hi
  have lenV := hi.length
  cases hk : K.lookup a with
  | some o =>
    have e := KX a o hk
    rw [ha] at e
    cases e
    refine law_core KX hns hb hbb hlim hsy hg ha hr F hbind (fun _ => none) (fun _ => .inl rfl) (fun b u z => nomatch (z : (none : Option HO) = some u)) (fun _ z => absurd rfl z) (fun z => absurd rfl z) ?_ (hCX _)
    exact hsp _ (fun _ => .inl rfl) (.inr ⟨_, vs.toArray, _, hk, rfl, rfl, rfl, by rw [List.size_toArray, lenV]; exact hl, by simpa using rv⟩)
  | none =>
    have one : ∀ {b : Addr} {u : HO}, (if b = a then some (HO.frz (scriptObj vs) (.lst (ns.map V.int))) else none) = some u → b = a ∧ u = .frz (scriptObj vs) (.lst (ns.map V.int)) := by
      intro b u z
      by_cases hb : b = a
      · rw [if_pos hb] at z
        exact ⟨hb, (Option.some.inj z).symm⟩
      · rw [if_neg hb] at z
        exact nomatch z
    have only : Only fun b => if b = a then some (HO.frz (scriptObj vs) (.lst (ns.map V.int))) else none := fun b => by
      by_cases hb : b = a
      · exact .inr ⟨_, _, if_pos hb⟩
      · exact .inl (if_neg hb)
    refine law_core KX hns hb hbb hlim hsy hg ha hr F hbind _ only (fun b u z => ?_) (fun b z => ?_) (fun _ => hk) (hsp _ only (.inl (.inr ⟨scriptObj vs, if_pos rfl⟩))) (hCX _)
    · obtain ⟨rfl, rfl⟩ := one z
      exact ⟨ha, by rw [List.length_map]; exact hl, vs, _, rv, ha⟩
    · cases q : (if b = a then some (HO.frz (scriptObj vs) (.lst (ns.map V.int))) else none) with
      | none => exact absurd q z
      | some u => exact (one q).1
theorem walkG {l : PySem.W.OpenLaw} {n k : Nat} {q : Program} {loose : List Str} {XP : (Str → Option Value) → Heap → Prop} {YP : World → Heap → Prop} {d : DefRec} {K : Params → PySem.W.Frag} {CX : World → CXT} {sp : World → Sp} {x : Str}
    (hn : l.most = some n) (hn2 : n ≤ sizeLine) (hdf : d.params.defaults = []) (hr : Room k callerA) (himp : importsNone q = true) (hY : ∀ (w : World) (h : Heap), YP w h → (K w.params).In h)
    (F : ∀ (w : World) (mg : Str → Option Value) (fa : Addr) (h : Heap), (K w.params).In h → h.Ns mainGlobals mg → mg d.name = some (.ref fa) →
      ∃ fd : FuncData, (∀ (s : Shared) (u : Value), BindsTo s fd ⟨[u], []⟩ [(x, u)]) ∧
        ∀ base : Heap, (K w.params).In base → base.Ns mainGlobals mg → SysIn base → FnG l.prog w (K w.params) mg base (CX w) k fa fd [x] (sp w))
    (hsp : ∀ (w : World) (H : Hp) (a : Addr) (ns : List Int), ns.length ≤ n → Only H → SqL (K w.params) H a (ns.map V.int) → sp w [.ref a] H (fun v _ => v = .bl true) fun _ _ _ => False)
    (hCX : ∀ (w : World) (H : Hp) (s : Shared) (e : Value) (s' : Shared), CX w [] H s (fun _ _ _ => False) e s' → False) :
    PySem.W.WalkO q loose XP YP l.row.toRowW d [] (fun f vs => PySem.call f vs) := by
  refine Att.attach_call hn hdf fun w s₀ s₁ mg mb fa o pm cd doc a vs ns G Y ho hd hcd hmg hobj hints hlen hg => ?_
  obtain ⟨fd, hb, hF⟩ := F w mg fa _ (hY w _ Y) G.T.g hmg
  exact law_callG (hY w _ Y) G.T.g G.T.b G.T.builtins G.T.nolimit (let ⟨mm, q, _⟩ := (G.T.seer himp).mods; ⟨mm, q⟩) hg hobj hints (Nat.le_trans hlen hn2) hr hF hb (fun H hO hS => hsp w H a ns hlen hO hS) fun H e s' => hCX w H s₁ e s'
end
end Gd

namespace PySem
namespace EzValue
open PySem.W PySem.Calls PyProof.Rows PySem.HandSPX
/-! ### the text of __init__ -/
def iA (p1 p2 : Pos) : Arguments := { posonlyargs := [], args := [{ arg := "self", annotation := none, pos := p1 }, { arg := "value", annotation := none, pos := p2 }], vararg := none, kwonlyargs := [], kw_defaults := [], kwarg := none, defaults := [] }
def iB (q1 q2 q3 q4 : Pos) : List Stmt := [.Assign [.Attribute (.Name "self" q1) "value" q2] (.Name "value" q3) q4]
def iS : Scope := { kind := .function, names := [(PySem.Str.ofString "self", .local), (PySem.Str.ofString "value", .local)], isGenerator := false, isCoroutine := false, more := [] }
/-- what the written part says of Low, at C, and of its __init__, at fI -/
structure LowTxt (K : Frag) (mg : Str → Option Value) (nm : Str) (qn : String) (C fI : Addr) : Prop where
  gC : mg nm = some (.ref C)
  cls : ∃ nmC q N bs bm sn sub ab col dd k0 k1 k2 k3 k5, K.lookup C = some (excClassObj nmC q C N bs bm true sn sub ab col dd k0 k1 k2 k3 k5 "ValueError.__new__") ∧ refsVE bm = true
  sa : findIn K (.ref C) "__setattr__" = some (some (.builtin "object.__setattr__"))
  ga : findIn K (.ref C) "__getattribute__" = some (some (.builtin "BaseException.__getattribute__"))
  gg : findIn K (.ref C) "__getattr__" = some none
  noN : findIn K (.ref C) "value" = some none
  iC : findIn K (.ref C) "__init__" = some (some (.ref fI))
  tC : typeIn K (.ref fI) = some (.type "function")
  kC : keepIn K (.ref C) = true
  exC : subIn K (.ref C) (.type "BaseException") = some true
  tyC : typeIn K (.ref C) = some (.type "type")
  hdC : hasDictIn K C = true
  te : exmOne K (.ref C) (.ref C) = some true
  fn : ∃ (oc : Value) (od : Option Addr) (doc pm : Value) (an : Option Addr) (cdv ct : Value) (osl : Array (Option Value)) (p1 p2 q1 q2 q3 q4 : Pos),
    K.lookup fI = some ⟨oc, od, .func (fnOf "__init__" qn (iA p1 p2) (iB q1 q2 q3 q4) iS .none .none doc pm an cdv ct), osl⟩ ∧ codeIn K cdv qn = true
theorem one_size (v : Value) : [v].length ≤ sizeLine := by
  rw [sizeLine_eq]
  exact (by decide : 1 ≤ 16777216)
theorem kept_but {K : Frag} {h h' : Heap} {x : Addr} (X : K.In h) (hx : K.lookup x = none) (k : ∀ b o, b ≠ x → h.get? b = some o → h'.get? b = some o) : K.In h' := fun a o e =>
  k a o (fun z => by rw [z, hx] at e; cases e) (X a o e)
theorem ldC {M : Model} {s : Shared} {name : Str} {scope : Scope} {L a : Addr} {cd : Value} {m : Str → Option Value} {x : Str} {pos : Pos} {v : Value} {Q : Value → Shared → Prop} {A : Around} {E : Value → Shared → Prop} (hn : s.heap.Ns L m) (hv : m x = some v) (h : Q v s)
    (hk : scope.kind = .function := by rfl) (hl : (envOfC name scope L a cd).kindOf x = some .local := by rfl) (hd : (x == ("__debug__" : Str)) = false := by decide) :
    wpAny M A (eval (.Name x pos) (envOfC name scope L a cd)) Q E s := wpAny_Name (wpAny_loadName_local hk hl hn hv h) hd
/-- what __init__ leaves of a fresh exception at x -/
structure InitEnd (h h' : Heap) (x C dx t1 : Addr) (v : Value) : Prop where
  keep : ∀ b o, b ≠ x → h.get? b = some o → h'.get? b = some o
  obj : h'.get? x = some { cls := .ref C, dict := some dx, data := .fields #[.ref t1, .none, .none, .none, .bool false, .none] }
  dbig : h.objs.size ≤ dx
  dne : dx ≠ x
  ns : h'.Ns1 dx (fun y => if y = "value" then some v else none)
/-- a made Low -/
structure OwnMade (h h' : Heap) (e C d : Addr) (v : Value) : Prop where
  keep : ∀ b o, h.get? b = some o → h'.get? b = some o
  new : h.objs.size ≤ e
  obj : ∃ oe vs, h'.get? e = some oe ∧ oe.cls = .ref C ∧ oe.dict = some d ∧ oe.data = .fields vs ∧ vs[1]? = some .none
  dbig : h.objs.size ≤ d
  dne : d ≠ e
  ns : h'.Ns1 d (fun y => if y = "value" then some v else none)
section
variable {prog : Program} {w : World} {A : Around} {E : Value → Shared → Prop} {R : Result → Shared → Prop} {s : Shared} {K : Frag} {mg : Str → Option Value} {nm : Str} {qn : String} {C fI : Addr}
theorem low_init (T : LowTxt K mg nm qn C fI) {x t0 : Addr} {v : Value} (X : K.In s.heap) (hlim : s.heap.NoLimit) (hx : s.heap.get? x = some (excO C t0)) (hnx : K.lookup x = none) (hroom : A.depth < recursionLimit)
    (hq : ∀ h' tk dx, InitEnd s.heap h' x C dx t0 v → R (.ok (.ret .none)) { s with heap := h', toks := tk }) :
    codeAny (model prog w) A (.call (.ref fI) ⟨[.ref x, v], []⟩) R s := by
  obtain ⟨oc, od, doc, pm, an, cdv, ct, osl, p1, p2, q1, q2, q3, q4, ho, hcd⟩ := T.fn
  obtain ⟨nmC, q, N, bs, bm, sn, sub, ab, col, dd, k0, k1, k2, k3, k5, hC, hbm⟩ := T.cls
  have hcl : clsIn K C = some { name := nmC, bases := bs, mro := .ref C :: bm, ns := N, qualname := q, hasDict := true, slotNames := sn, subclasses := sub, abstract := ab, collection := col, hasDel := false } := by unfold clsIn; rw [hC] <;> rfl
  refine Att.call_fn (binds := [("self", .ref x), ("value", v)]) X hlim ho hcd hroom (BindsTo.of_eq (by first | rfl | with_unfolding_all rfl)) (by first | rfl | decide | with_unfolding_all rfl) (fun s₁ IC => ?_) rfl rfl rfl
  obtain ⟨h₁, tk₁, rfl⟩ := IC.toInCall.same
  have k : ∀ b o, s.heap.get? b = some o → h₁.get? b = some o := IC.toInCall.keep
  have hn := IC.toInCall.ns
  have hxL : s.heap.objs.size ≠ x := Nat.ne_of_gt (Heap.lt_size hx)
  have X₁ : K.In h₁ := X.keeps k
  have hx₁ := k _ _ hx
  -- self.by = by
  show wpAny _ _ (execs _ _) _ _ _
  refine wpAny_execs_cons (plainObj_wpAny_Assign_Attribute ?_)
  refine ldC (v := v) hn (by first | rfl | with_unfolding_all rfl | kernel_rfl) (ldC (v := .ref x) hn (by first | rfl | with_unfolding_all rfl | kernel_rfl) ?_)
  refine set_plain X₁ (ox := excO C t0) (od := none) ⟨hx₁, rfl, rfl, trivial⟩ T.sa ?_
  refine exc_osa X₁ hx₁ hcl (show refsVE (.ref C :: bm) = true from hbm) rfl T.noN (fun h₃ tk₃ dx k₃ dn dne hx₃ hn₃ => ?_)
  show wpAny _ _ (execs _ _) _ _ _
  have z : s.heap.objs.size < h₁.objs.size := hn.lt
  exact wpAny_execs_nil (hq h₃ tk₃ dx ⟨fun b o hb e => k₃ b o hb (k b o e), hx₃, Nat.le_of_lt (Nat.lt_of_lt_of_le z dn), dne, hn₃⟩)
theorem low_made (T : LowTxt K mg nm qn C fI) {v : Value} (X : K.In s.heap) (hlim : s.heap.NoLimit) (hroom : A.depth + 1 < recursionLimit)
    (hq : ∀ h' tk e d, OwnMade s.heap h' e C d v → R (.ok (.ret (.ref e))) { s with heap := h', toks := tk }) :
    codeAny (model prog w) A (.call (.ref C) ⟨[v], []⟩) R s := by
  obtain ⟨nmC, q, N, bs, bm, sn, sub, ab, col, dd, k0, k1, k2, k3, k5, hC, hbm⟩ := T.cls
  obtain ⟨hp, g, dr, tk, os⟩ := s
  have k : ∀ b o, hp.get? b = some o → ((hp.push (kdv_tup [v])).push (excO C hp.objs.size)).get? b = some o := fun b o e => Heap.get?_push_of_some _ (Heap.get?_push_of_some _ e)
  have hget : ((hp.push (kdv_tup [v])).push (excO C hp.objs.size)).get? (hp.objs.size + 1) = some (excO C hp.objs.size) := by heap_get
  have hnx : K.lookup (hp.objs.size + 1) = none := by
    cases e : K.lookup (hp.objs.size + 1) with
    | none => rfl
    | some o =>
      have z : hp.get? (hp.objs.size + 1) = some o := X _ _ e
      exact absurd (Nat.lt_of_succ_lt (Heap.lt_size z)) (Nat.lt_irrefl _)
  refine call_own F.excBase_ValueError (fun X => refsVE_contains X bm hbm) (X _ _ hC) (looks_findIn X T.iC) (fun self => bind_fn X self T.tC) (one_size v) ?_
  refine low_init (s := ⟨(hp.push (kdv_tup [v])).push (excO C hp.objs.size), g, dr, tk, os⟩) T (X.keeps k) (hlim.keeps k) hget hnx ?_ fun h' tk' dx ⟨k', hx, dn, dne, hns⟩ => ?_
  · show A.depth + 1 < recursionLimit
    exact hroom
  · have old : ∀ b o, hp.get? b = some o → h'.get? b = some o := fun b o e => k' b o (Nat.ne_of_lt (Nat.lt_succ_of_lt (Heap.lt_size e))) (k b o e)
    have z : hp.objs.size + 1 + 1 ≤ dx := by
      first
        | (simpa only [Heap.size_push] using dn)
        | exact dn
        | (have q := dn; rw [Heap.size_push, Heap.size_push] at q; exact q)
    exact ⟨rfl, hq h' tk' (hp.objs.size + 1) dx ⟨old, Nat.le_succ _, ⟨_, _, hx, rfl, rfl, rfl, rfl⟩, Nat.le_trans (Nat.le_trans (Nat.le_succ _) (Nat.le_succ _)) z, dne, hns⟩⟩
end
end EzValue
end PySem
namespace L2
open PySem PySem.Spec PyProof.Rows
theorem relO_value {v : V} {v' : Value} (r : RelV v v') (f : Str) : RelO (List.lookup f [(("value" : Str), v)]) (if f = "value" then some v' else none) := by
  by_cases hw : f = "value"
  · subst hw
    rw [if_pos rfl]
    have q : List.lookup ("value" : Str) [(("value" : Str), v)] = some v := by simp [List.lookup]
    rw [q]
    exact r
  · rw [if_neg hw]
    have qw : (f == ("value" : Str)) = false := by simpa using hw
    have q2 : List.lookup f [(("value" : Str), v)] = none := by simp [List.lookup, qw]
    rw [q2]
    trivial
section
variable {X : Cx} {nm : Str} {qn : String} {C fI : Addr}
/-- Low(e) -/
def tMk_value (C : Addr) (ta : TA) : L2.St → Hp → XK → Prop := fun σ H Q => ta σ H fun vs H1 => ∃ v, vs = [v] ∧ ∀ d, H1 d = none → Q (.ref C) (some d) (upd H1 d (.xd [(("value" : Str), v)]))
theorem pmk_value {a : Expr} {ta : TA} {p pos : Pos} {k : Nat} (T : PySem.EzValue.LowTxt X.K X.mg nm qn C fI) (hr : Room k X.A) (ha : PA X [a] ta) (hg : Gl X nm := by rfl) (hdb : (nm == ("__debug__" : Str)) = false := by decide)
    (he : starEach (a :: []) X.env = (false, eval a X.env) :: starEach [] X.env := by rfl) (hpl : (backTo pos (starEach [] X.env)).any (·.1) = false := by rfl) :
    PMk X (.Call (.Name nm p) [a] [] pos) (tMk_value C ta) := by
  intro pins s σ H Q I h
  refine wpAny_Call_Name_kw (ld_glob I hg T.gC ?_ hdb)
  refine PySem.W.callWith_K (h₀ := X.base) I.ok.mod.kin T.kC (thn (ha.run pos pins s σ H _ I h) fun us s1 hh => ?_) he hpl
  obtain ⟨vs, H1, I1, r1, v, ev, q1⟩ := hh
  subst ev
  refine ⟨I1.kIn, ?_⟩
  cases r1 with
  | cons rv rn =>
    rename_i v' us'
    cases rn
    show wpAny _ _ (call (.ref C) [v']) _ _ _
    have hlim := I1.nolimit
    obtain ⟨hp, g, dr, tk, os⟩ := s1
    refine wpAny_call (PySem.EzValue.low_made T I1.kIn hlim (by have := hr.dp; omega) fun h' tk' e d M => ?_)
    show MkP X pins σ Q (.ref e) ⟨h', g, dr, tk', os⟩
    obtain ⟨oe, fv, hoe, hc, hd, hdat, h1⟩ := M.obj
    have hns := M.ns
    obtain ⟨G', g1, g2⟩ := restrict h' fun b => decide (b ≠ e)
    have gk : ∀ b, b ≠ e → G'.get? b = h'.get? b := fun b hb => g1 b (decide_eq_true hb)
    have ge : G'.get? e = none := g2 e (by simp)
    have old : ∀ b o, hp.get? b = some o → G'.get? b = some o := fun b o q => (gk b (Nat.ne_of_lt (Nat.lt_of_lt_of_le (Heap.lt_size q) M.new))).trans (M.keep b o q)
    have ob : ObjOk X.prog X.w (upd H1 d (.xd [(("value" : Str), v)])) G' d (.xd [(("value" : Str), v)]) :=
      ⟨_, hns.at (fun o q => (gk d M.dne).trans q), fun f => relO_value rv f⟩
    have J : Inv X pins σ (upd H1 d (.xd [(("value" : Str), v)])) ⟨G', g, dr, tk', os⟩ := I1.laid (t' := tk') old M.dbig ob
    refine ⟨e, oe, fv, ⟨G', g, dr, tk', os⟩, _, .ref C, some d, rfl, J, fun b o q => ?_, ge, hoe, ⟨hc, hd⟩, hdat, h1, ?_, rfl, I1.bare, raises_own T.exC T.tyC, q1 d (I1.hok.fresh M.dbig)⟩
    · by_cases hb : b = e
      · have q' : G'.get? b = some o := q
        rw [hb, ge] at q'; cases q'
      · exact (gk b hb).symm.trans q
    · rw [upd_ne (Ne.symm M.dne)]
      exact I1.hok.fresh M.new
/-- raise Low(e) -/
def tRaise_value (C : Addr) (W : WX) (ta : TA) : TS := fun _ σ H => tMk_value C ta σ H fun cls d H' => W cls d σ H'
theorem ps_raise_value {a : Expr} {ta : TA} {W : WX} {p pos pos2 : Pos} {k : Nat} (hc : X.calm = true) (T : PySem.EzValue.LowTxt X.K X.mg nm qn C fI) (hr : Room k X.A) (tk : Takes X W) (ha : PA X [a] ta) (hg : Gl X nm := by rfl) (hdb : (nm == ("__debug__" : Str)) = false := by decide)
    (he : starEach (a :: []) X.env = (false, eval a X.env) :: starEach [] X.env := by rfl) (hpl : (backTo pos (starEach [] X.env)).any (·.1) = false := by rfl) :
    PS X (.Raise (some (.Call (.Name nm p) [a] [] pos)) none pos2) (tRaise_value C W ta) := ps_raise hc tk (pmk_value T hr ha hg hdb he hpl)
/-- low.by, low the exception that the suite holds (at a; its class cls, its dict d) -/
def tBy_value (C : Addr) (a : Addr) (cls : Value) (d : Option Addr) (te : TE) : TE := fun σ H Q => te σ H fun x H1 => x = .ref a ∧ cls = .ref C ∧ ∃ (dd : Addr) (v : V), d = some dd ∧ H1 dd = some (.xd [(("value" : Str), v)]) ∧ Q v H1
theorem pe_by_value {a : Addr} {oe : Obj} {cls : Value} {d : Option Addr} {pn : List (Addr × Obj)} {e : Expr} {te : TE} {pos : Pos} (T : PySem.EzValue.LowTxt X.K X.mg nm qn C fI) (hz : Zc cls d oe) (hf : ∃ vs, oe.data = .fields vs) (he : PE (X.suite a ((a, oe) :: pn)) e te)
    (hb : attributeBase e "value" X.env (eval e X.env) = eval e X.env := by rfl) :
    PE (X.suite a ((a, oe) :: pn)) (.Attribute e "value" pos) (tBy_value C a cls d te) := by
  refine ⟨fun pins s σ H Q I h => ?_⟩
  refine attr_of hb (thn (he.run pins s σ H _ I h) fun u s1 hh => ?_)
  obtain ⟨x, H1, I1, rx, ex, ec, dd, v, ed, ea, q⟩ := hh
  subst ex
  obtain rfl : u = Value.ref a := rx
  subst ec
  subst ed
  obtain ⟨ha, _⟩ := I1.pin (a, oe) (List.mem_append_left _ List.mem_cons_self)
  obtain ⟨vs, hd⟩ := hf
  have hx : ObjOk X.prog X.w H1 s1.heap dd (.xd [(("value" : Str), v)]) := I1.hok dd _ ea
  obtain ⟨mA, hns, hr⟩ := hx
  obtain ⟨od, ho, hl⟩ := lookIn_ns hns
  have l : List.lookup ("value" : Str) [(("value" : Str), v)] = some v := by simp [List.lookup]
  obtain ⟨u, hu, ru⟩ := RelO.some_of (v := v) (o := mA "value") (by rw [← l]; exact hr "value")
  have J : PySem.W.InstAt s1.heap a oe C (some od) := ⟨ha, hz.1, by unfold PySem.W.notCls; rw [hd] <;> rfl, by rw [hz.2]; exact ho⟩
  exact HandSPX.exc_get I1.kIn J T.ga T.gg T.exC (PySem.W.findObj_own T.hdC T.noN rfl (by rw [hl, hu])) (handed_of ru) ⟨v, H1, I1.tok _, ru, q⟩
end
end L2


namespace Gd
open PySem PySem.Spec PyProof.Rows L2
/-- an except clause: its class, the slot of its name, what its suite reads -/
structure Cl where
  c : Value
  i : Option Nat
  ts : Addr → Value → Option Addr → TS
/-- behind the suite of a clause with a name the name is gone -/
def gone (D : Ends) (i : Nat) : Ends :=
  { nx := fun σ H => D.nx (σ.set i none) H, rt := D.rt, bk := fun σ H => D.bk (σ.set i none) H, ct := fun σ H => D.ct (σ.set i none) H }
/-- what the suite of a clause is asked -/
def atCl (q : Cl) (D : Ends) (a : Addr) (cls : Value) (d : Option Addr) (σ : L2.St) (H : Hp) : Prop :=
  match q.i with
  | some i => q.ts a cls d (gone D i) (σ.set i (some (.ref a))) H
  | none => q.ts a cls d D σ H
/-- what the clauses wish of an exception; where none of the told ones takes it, that can't be -/
def wCl (K : PySem.W.Frag) (D : Ends) : List Cl → WX
  | [] => fun _ _ _ _ => False
  | q :: r => fun cls d σ H => ∃ b, PySem.W.exmOne K cls q.c = some b ∧ (b = true → ∀ a, H a = none → atCl q D a cls d σ H) ∧ (b = false → wCl K D r cls d σ H)
inductive HdG (X : Cx) : List ExceptHandler → List Cl → Prop
  | stop (hds : List ExceptHandler) : HdG X hds []
  | as {x n : Str} {i : Nat} {c : Value} {ts : Addr → Value → Option Addr → TS} {b₀ : Stmt} {suite : List Stmt} {np ps : Pos} {hds : List ExceptHandler} {l : List Cl} (hi : X.N[i]? = some n) (hl : X.env.kindOf n = some .local) (hc : Names X x c)
      (hsu : ∀ (a : Addr) (oe : Obj) (cls : Value) (d : Option Addr) (pn : List (Addr × Obj)), Zc cls d oe → (∃ vs, oe.data = .fields vs) → PSs (X.suite a ((a, oe) :: pn)) (b₀ :: suite) (ts a cls d)) (r : HdG X hds l) :
      HdG X (.ExceptHandler (some (.Name x np)) (some n) (b₀ :: suite) ps :: hds) (⟨c, some i, ts⟩ :: l)
  | bare {x : Str} {c : Value} {ts : Addr → Value → Option Addr → TS} {b₀ : Stmt} {suite : List Stmt} {np ps : Pos} {hds : List ExceptHandler} {l : List Cl} (hc : Names X x c)
      (hsu : ∀ (a : Addr) (oe : Obj) (cls : Value) (d : Option Addr) (pn : List (Addr × Obj)), Zc cls d oe → (∃ vs, oe.data = .fields vs) → PSs (X.suite a ((a, oe) :: pn)) (b₀ :: suite) (ts a cls d)) (r : HdG X hds l) :
      HdG X (.ExceptHandler (some (.Name x np)) none (b₀ :: suite) ps :: hds) (⟨c, none, ts⟩ :: l)
section
variable {X : Cx} {body : List Stmt} {h₀ : ExceptHandler} {hds : List ExceptHandler} {l : List Cl} {pos : Pos} {tb : WX → TS}
theorem ps_tryG (hs : X.stack = X.env :: X.outer) (hf : X.env.frame = some X.env.locals) (hN : X.N.Nodup)
    (hb : ∀ (W : WX) (pn : List (Addr × Obj)) (xe : Value → Shared → Prop), Takes (X.tr pn xe) W → PassesOwn (model X.prog X.w) X.A X.env xe → PSs (X.tr pn xe) body (tb W))
    (hh : HdG X (h₀ :: hds) l) : PS X (.Try body (h₀ :: hds) [] [] pos) (fun D σ H => tb (wCl X.K D l) D σ H) := by
  refine ⟨fun pins s σ H D I h => ?_⟩
  have ok := I.ok
  have hfr : X.A.frames = some (X.env :: X.outer) := ok.frames.trans (congrArg some hs)
  refine wpAny_Try_except (wpAny_mono ((hb (wCl X.K D l) (X.pn ++ pins) _ ?caught PassesOwn.looking).run [] s σ H D (I.toTry _) h) ?norm fun _ _ z => z)
  case norm =>
    intro f s1 hsp
    match f, hsp with
    | .next, ⟨σ', H', J, q⟩ => exact wpAny_execs_nil ⟨σ', H', J.ofTry ok, q⟩
    | .brk, ⟨σ', H', J, q⟩ => exact ⟨σ', H', J.ofTry ok, q⟩
    | .cont, ⟨σ', H', J, q⟩ => exact ⟨σ', H', J.ofTry ok, q⟩
    | .ret u, ⟨v, σ', H', J, r, q⟩ => exact ⟨v, σ', H', J.ofTry ok, r, q⟩
  case caught =>
    intro u s' xx
    obtain ⟨a, B, sI, pins', σ', H', cls, d, rfl, J', nb, up, sky, na, os, ag, w⟩ := xx
    have J : Inv X pins σ' H' sI := J'.ofTry ok
    rw [show (X.tr (X.pn ++ pins) _).stack = X.env :: X.outer from hs] at sky
    show wpAny _ X.A (noteFrame (.ref a) X.env) _ _ _
    refine Sky.land Zc.steady hfr hf sky fun h3 fl3 up3 => ?_
    have J3 : Inv X pins σ' H' { s' with heap := h3 } := J.landed nb fl3.1 (up.trans up3) os ag
    obtain ⟨oe3, vs3, he3, hz3, hd3⟩ := fl3.there
    have nfr : a ∉ frs (X.env :: X.outer) := fun hm => by
      obtain ⟨_, o, e, hn⟩ := fl3.2.2.1.mem hm
      rw [he3] at e
      cases e
      exact hn _ hd3
    have nL : a ≠ X.env.locals := fun z => nfr (List.mem_filterMap.mpr ⟨X.env, List.mem_cons_self, by rw [hf, z]⟩)
    have nF : a ∉ X.fs := fun hm => nfr (let ⟨e, he, q⟩ := List.mem_filterMap.mp hm; List.mem_filterMap.mpr ⟨e, List.mem_cons_of_mem _ he, q⟩)
    have S3 := J3.suite he3 hd3 na nL nF
    have LT : PySem.W.Looks (model X.prog X.w) h3 (typeOf (.ref a)) cls := fun A Q E s k q => wpAny_typeOf_ref (k _ _ he3) (by rw [hz3.1]; exact q)
    have test : ∀ {x : Str} {c : Value} {np : Pos} {Q E : Value → Shared → Prop}, Names X x c → Q c { s' with heap := h3 } → wpAny (model X.prog X.w) (X.A.mark (some (.ref a))) (eval (.Name x np) X.env) Q E { s' with heap := h3 } := by
      rintro x c np Q E ⟨hg, hdb, hm | ⟨hm, hv, hn⟩⟩ q
      · exact ld_glob (X := X.suite a ((a, oe3) :: (X.pn ++ pins))) S3 hg hm q hdb
      · exact ld_blt (X := X.suite a ((a, oe3) :: (X.pn ++ pins))) S3 hg hm hv q hn hdb
    suffices go : ∀ {hs : List ExceptHandler} {cl : List Cl}, HdG X hs cl → wCl X.K D cl cls d σ' H' → wpAny (model X.prog X.w) X.A (handleBy (.ref a) X.env hs) (SP X pins D) X.xe { s' with heap := h3 } from go hh w
    intro hs' cl k
    induction k with
    | stop => exact fun w => w.elim
    | @as x n i c ts b₀ suite np ps hds l hi hl hc hsu r ih =>
      rintro ⟨b, hb1, yes, no⟩
      have hb2 := PySem.W.exm_one (M := model X.prog X.w) J3.kIn LT hb1
      refine wpAny_handleBy_cons (codeAny_handlers_test (test hc (hb2.here ?_))) (fun q => nomatch q)
      cases b with
      | false => exact ih (no rfl)
      | true =>
        refine codeAny_handlers_suite_as (HandSPX.lands_againZ fl3 fun h4 fl4 up4 => ?_)
        have J4 : Inv X pins σ' H' { s' with heap := h4 } := J.landed nb fl4.1 ((up.trans up3).trans up4) os ag
        obtain ⟨oe4, vs4, he4, hz4, hd4⟩ := fl4.there
        refine store_ok (X := X.suite a ((a, oe4) :: (X.pn ++ pins))) (v := .ref a) (J4.suite he4 hd4 na nL nF) hN hi (.inl hl) rfl (fun s5 S5 => ?_) (.inr hl)
        refine wpAny_mono ((hsu a oe4 cls d (X.pn ++ pins) hz4 ⟨_, hd4⟩).run [] s5 _ H' (gone D i) S5 (yes rfl a na)) (fun f s6 hsp => ?_) fun _ _ z => z.elim
        have fin : ∀ {σ6 : L2.St} {H6 : Hp} {Q : Shared → Prop}, Inv (X.suite a ((a, oe4) :: (X.pn ++ pins))) [] σ6 H6 s6 → (∀ s7, Inv X pins (σ6.set i none) H6 s7 → Q s7) →
          wpAny (model X.prog X.w) X.A (do bindName X.env n .none; unbindBehindTheSuite X.env n ps) (fun _ s7 => Q s7) X.xe s6 := fun S6 hq => gone_ok (S6.unsuite ok) hN hi hl hq
        match f, hsp with
        | .next, ⟨σ6, H6, S6, q6⟩ => exact fin S6 fun s7 J7 => ⟨_, _, J7, q6⟩
        | .brk, ⟨σ6, H6, S6, q6⟩ => exact fin S6 fun s7 J7 => ⟨_, _, J7, q6⟩
        | .cont, ⟨σ6, H6, S6, q6⟩ => exact fin S6 fun s7 J7 => ⟨_, _, J7, q6⟩
        | .ret u, ⟨v6, σ6, H6, S6, r6, q6⟩ => exact fin S6 fun s7 J7 => ⟨_, _, _, J7, r6, q6⟩
    | @bare x c ts b₀ suite np ps hds l hc hsu r ih =>
      rintro ⟨b, hb1, yes, no⟩
      have hb2 := PySem.W.exm_one (M := model X.prog X.w) J3.kIn LT hb1
      refine wpAny_handleBy_cons (codeAny_handlers_test (test hc (hb2.here ?_))) (fun q => nomatch q)
      cases b with
      | false => exact ih (no rfl)
      | true =>
        refine codeAny_handlers_suite (HandSPX.lands_againZ fl3 fun h4 fl4 up4 => ?_)
        have J4 : Inv X pins σ' H' { s' with heap := h4 } := J.landed nb fl4.1 ((up.trans up3).trans up4) os ag
        obtain ⟨oe4, vs4, he4, hz4, hd4⟩ := fl4.there
        refine wpAny_mono ((hsu a oe4 cls d (X.pn ++ pins) hz4 ⟨_, hd4⟩).run [] _ _ H' D (J4.suite he4 hd4 na nL nF) (yes rfl a na)) (fun f s6 hsp => ?_) fun _ _ z => z.elim
        match f, hsp with
        | .next, ⟨σ6, H6, S6, q6⟩ => exact ⟨_, _, S6.unsuite ok, q6⟩
        | .brk, ⟨σ6, H6, S6, q6⟩ => exact ⟨_, _, S6.unsuite ok, q6⟩
        | .cont, ⟨σ6, H6, S6, q6⟩ => exact ⟨_, _, S6.unsuite ok, q6⟩
        | .ret u, ⟨v6, σ6, H6, S6, r6, q6⟩ => exact ⟨_, _, _, S6.unsuite ok, r6, q6⟩
end
end Gd

namespace Gd
open PySem PySem.Spec PyProof.Rows L2
/-- a call of a def: the written arguments, then the defaults; what may be let out, at the slots -/
def tCallG (sp : Sp) (dvs : List V) (E : L2.St → XK) (t : TA) : TE := fun σ H Q => t σ H fun vs H1 => sp (vs ++ dvs) H1 Q (E σ)
/-- .. with keywords -/
def tCallH (n m : Nat) (sp : Sp) (gV : List V → List V → List V) (E : L2.St → XK) (t tk : TA) : TE := fun σ H Q => t σ H fun vs H1 => tk σ H1 fun zs H2 => vs.length = n ∧ zs.length = m ∧ sp (gV vs zs) H2 Q (E σ)
section
variable {X : Cx} {CX : CXT} {k n : Nat} {f : Addr} {fd : FuncData} {ps ks : List Str} {sp : Sp} {dvs : List V} {ds : List Value} {E : L2.St → XK} {x : Str} {p pos : Pos} {e : Expr} {es : List Expr} {t tk : TA} {kws : List Keyword}
  {g : List Value → List Value → List Value} {gV : List V → List V → List V}
theorem passN {σ : L2.St} : PassesAt CX0 X σ E0 := fun _ _ _ _ _ _ h => h.elim
theorem passM {σ : L2.St} : PassesAt (L2.CX X.prog X.w) X σ E0 := fun _ _ _ _ _ _ h => by
  obtain ⟨_, _, _, _, _, _, _, _, _, _, _, _, z⟩ := h
  exact z.elim
theorem endC {pins : List (Addr × Obj)} {σ : L2.St} {H : Hp} {s s' : Shared} {Q : VK} {E1 : XK} {r : Result} (hx : PassesAt CX X σ E1) (I : Inv X pins σ H s) (hq : CR CX X.stack X.prog X.w H s Q E1 r s') :
    match (motive := Result → Prop) r with
    | .ok (.ret v) => EP X pins σ Q v s'
    | .ok _ => False
    | .error e => X.xe e s' := by
  match r, hq with
  | .error e, hq => exact hx pins H s e s' I hq
  | .ok (.ret u), hq => exact I.after hq
  | .ok .next, hq => exact False.elim hq
  | .ok .brk, hq => exact False.elim hq
  | .ok .cont, hq => exact False.elim hq
theorem runC {pins : List (Addr × Obj)} {σ : L2.St} {H : Hp} {s : Shared} {Q : VK} {us : List Value} {vs : List V} (F : FnG X.prog X.w X.K X.mg X.base CX k f fd ps sp) (hc : Clean X.A) (hr : Room k X.A)
    (hb : Binds X.K fd ps ds) (hd : Vals dvs ds) (hx : PassesAt CX X σ (E σ)) (I : Inv X pins σ H s) (r : Vals vs us) (h : sp (vs ++ dvs) H Q (E σ)) :
    wpAny (model X.prog X.w) X.A (call (.ref f) us) (EP X pins σ Q) X.xe s := by
  have r2 := r.append hd
  have hl : (us ++ ds).length = ps.length := r2.length ▸ F.len _ _ _ _ h
  refine wpAny_call (codeAny_mono (F.run X.A X.stack s H ⟨us, []⟩ (us ++ ds) (vs ++ dvs) Q (E σ) hc hr I.env0 (hb s us I.kIn hl) r2 h) ?_)
  intro r s' hq
  have z := endC hx I hq
  match r, z with
  | .error e, z => exact z
  | .ok (.ret u), z => exact z
  | .ok .next, z => exact False.elim z
  | .ok .brk, z => exact False.elim z
  | .ok .cont, z => exact False.elim z
theorem runH {pins : List (Addr × Obj)} {σ : L2.St} {H : Hp} {s : Shared} {Q : VK} {us ws : List Value} {vs zs : List V} (F : FnG X.prog X.w X.K X.mg X.base CX k f fd ps sp) (hc : Clean X.A) (hr : Room k X.A)
    (hb : KBn X.K fd ps n ks g gV) (hx : PassesAt CX X σ (E σ)) (I : Inv X pins σ H s) (r : Vals vs us) (rz : Vals zs ws) (l1 : vs.length = n) (l2 : zs.length = ks.length) (h : sp (gV vs zs) H Q (E σ)) :
    wpAny (model X.prog X.w) X.A (call (.ref f) us (ks.zip ws)) (EP X pins σ Q) X.xe s := by
  refine wpAny_call (codeAny_mono (F.run X.A X.stack s H ⟨us, ks.zip ws⟩ (g us ws) (gV vs zs) Q (E σ) hc hr I.env0 (hb.to s us ws I.kIn (r.length.symm.trans l1) (rz.length.symm.trans l2)) (hb.rel r rz) h) ?_)
  intro r s' hq
  have z := endC hx I hq
  match r, z with
  | .error e, z => exact z
  | .ok (.ret u), z => exact z
  | .ok .next, z => exact False.elim z
  | .ok .brk, z => exact False.elim z
  | .ok .cont, z => exact False.elim z
/-- f(e, ..) -/
theorem pe_c (F : FnG X.prog X.w X.K X.mg X.base CX k f fd ps sp) (hc : Clean X.A) (hr : Room k X.A) (hg : Gl X x) (hm : X.mg x = some (.ref f)) (hk : PySem.W.keepIn X.K (.ref f) = true)
    (hb : Binds X.K fd ps ds) (hd : Vals dvs ds) (hx : ∀ σ, PassesAt CX X σ (E σ)) (ha : PA X (e :: es) t) (hdb : (x == ("__debug__" : Str)) = false := by decide)
    (he : starEach (e :: es) X.env = (false, eval e X.env) :: starEach es X.env := by rfl) (hpl : (backTo pos (starEach es X.env)).any (·.1) = false := by rfl) :
    PE X (.Call (.Name x p) (e :: es) [] pos) (tCallG sp dvs E t) := by
  refine ⟨fun pins s σ H Q I h => wpAny_Call_Name_kw (ld_glob I hg hm ?_ hdb)⟩
  exact PySem.W.callWith_K (h₀ := X.base) I.ok.mod.kin hk (thn (ha.run pos pins s σ H _ I h) fun us s1 ⟨vs, H1, I1, r, q⟩ => ⟨I1.kIn, runC F hc hr hb hd (hx σ) I1 r q⟩) he hpl
/-- f() -/
theorem pe_c0 (F : FnG X.prog X.w X.K X.mg X.base CX k f fd ps sp) (hc : Clean X.A) (hr : Room k X.A) (hg : Gl X x) (hm : X.mg x = some (.ref f)) (hk : PySem.W.keepIn X.K (.ref f) = true)
    (hb : Binds X.K fd ps ds) (hd : Vals dvs ds) (hx : ∀ σ, PassesAt CX X σ (E σ)) (hdb : (x == ("__debug__" : Str)) = false := by decide) :
    PE X (.Call (.Name x p) [] [] pos) (tCallG sp dvs E tNil) := by
  refine ⟨fun pins s σ H Q I h => wpAny_Call_Name_kw (ld_glob I hg hm ?_ hdb)⟩
  exact PySem.W.callWith_K0 I.kIn hk (runC (us := []) F hc hr hb hd (hx σ) I .nil h)
/-- f(e, .., k = v, ..) -/
theorem pe_h (F : FnG X.prog X.w X.K X.mg X.base CX k f fd ps sp) (hc : Clean X.A) (hr : Room k X.A) (hg : Gl X x) (hm : X.mg x = some (.ref f)) (hk : PySem.W.keepIn X.K (.ref f) = true)
    (hb : KBn X.K fd ps n ks g gV) (hx : ∀ σ, PassesAt CX X σ (E σ)) (ha : PA X (e :: es) t) (hkw : PK X kws tk)
    (hall : (backToKw pos (keywordEach kws X.env)).all (·.1.isSome) = true := by rfl) (hks : (backToKw pos (keywordEach kws X.env)).filterMap (·.1) = ks := by rfl) (hdb : (x == ("__debug__" : Str)) = false := by decide)
    (he : starEach (e :: es) X.env = (false, eval e X.env) :: starEach es X.env := by rfl)
    (hpl : ((backTo pos (starEach (e :: es) X.env)).any (·.1) || (backToKw pos (keywordEach kws X.env)).any (·.1.isNone)) = false := by rfl) :
    PE X (.Call (.Name x p) (e :: es) kws pos) (tCallH n ks.length sp gV E t tk) := by
  refine ⟨fun pins s σ H Q I h => wpAny_Call_Name_kw (ld_glob I hg hm ?_ hdb)⟩
  refine PySem.W.callWith_KW (h₀ := X.base) I.ok.mod.kin hk hall (thn (ha.run pos pins s σ H _ I h) fun us s1 ⟨vs, H1, I1, r, q⟩ => ?_) hpl he
  refine thn (hkw.run pos pins s1 σ H1 _ I1 q) fun ws s2 ⟨zs, H2, I2, rz, l1, l2, q2⟩ => ⟨I2.kIn, ?_⟩
  rw [hks]
  exact runH F hc hr hb (hx σ) I2 r rz l1 l2 q2
/-- f(k = v, ..) -/
theorem pe_h0 (F : FnG X.prog X.w X.K X.mg X.base CX k f fd ps sp) (hc : Clean X.A) (hr : Room k X.A) (hg : Gl X x) (hm : X.mg x = some (.ref f)) (hk : PySem.W.keepIn X.K (.ref f) = true)
    (hb : KBn X.K fd ps 0 ks g gV) (hx : ∀ σ, PassesAt CX X σ (E σ)) (hkw : PK X kws tk)
    (hall : (backToKw pos (keywordEach kws X.env)).all (·.1.isSome) = true := by rfl) (hks : (backToKw pos (keywordEach kws X.env)).filterMap (·.1) = ks := by rfl) (hdb : (x == ("__debug__" : Str)) = false := by decide)
    (hpl : ((backTo pos (starEach [] X.env)).any (·.1) || (backToKw pos (keywordEach kws X.env)).any (·.1.isNone)) = false := by rfl) :
    PE X (.Call (.Name x p) [] kws pos) (tCallH 0 ks.length sp gV E tNil tk) := by
  refine ⟨fun pins s σ H Q I h => wpAny_Call_Name_kw (ld_glob I hg hm ?_ hdb)⟩
  refine PySem.W.callWith_KW0 (h₀ := X.base) I.ok.mod.kin hk hall (thn (hkw.run pos pins s σ H _ I h) fun ws s2 ⟨zs, H2, I2, rz, l1, l2, q2⟩ => ⟨I2.kIn, ?_⟩) hpl
  rw [hks]
  exact runH (us := []) F hc hr hb (hx σ) I2 .nil rz l1 l2 q2
end
end Gd

namespace Gd
open PySem PySem.Spec PyProof.Rows L2
/-! ### data as it stands in the heap, dicts among it -/
def kD : Key → PyData
  | .inl i => .int i
  | .inr x => .str x
mutual
inductive Da (K : PySem.W.Frag) (H : Hp) : V → PyData → Prop
  | non : Da K H .non .none
  | bl (b : Bool) : Da K H (.bl b) (.bool b)
  | int (i : Int) : Da K H (.int i) (.int i)
  | str (x : Str) : Da K H (.str x) (.str x)
  | lst {a : Addr} {xs : List V} {ds : List PyData} : H a = some (.lst xs) → DaL K H xs ds → Da K H (.ref a) (.list ds)
  | tup {a : Addr} {xs : List V} {ds : List PyData} : SqT K H a xs → DaL K H xs ds → Da K H (.ref a) (.tuple ds)
  | dct {a : Addr} {kvs : List (Key × V)} {ds : List PyData} : H a = some (.dK kvs) → DaL K H (kvs.map (·.2)) ds → Da K H (.ref a) (.dict ((kvs.map fun p => kD p.1).zip ds))
inductive DaL (K : PySem.W.Frag) (H : Hp) : List V → List PyData → Prop
  | nil : DaL K H [] []
  | cons {v : V} {vs : List V} {d : PyData} {ds : List PyData} : Da K H v d → DaL K H vs ds → DaL K H (v :: vs) (d :: ds)
end
section
variable {K : PySem.W.Frag} {H H' : Hp}
theorem DaL.length : ∀ {vs : List V} {ds : List PyData}, DaL K H vs ds → ds.length = vs.length
  | _, _, .nil => rfl
  | _, _, .cons _ r => by rw [List.length_cons, List.length_cons, r.length]
theorem sameT {a : Addr} {xs : List V} (e : Same H H') (h : SqT K H a xs) : SqT K H' a xs := by
  rcases h with (h | ⟨o, h⟩) | h
  · exact .inl (.inl (e _ _ h))
  · exact .inl (.inr ⟨o, e _ _ h⟩)
  · exact .inr h
mutual
theorem Da.same (e : Same H H') : ∀ {v : V} {d : PyData}, Da K H v d → Da K H' v d
  | _, _, .non => .non
  | _, _, .bl b => .bl b
  | _, _, .int i => .int i
  | _, _, .str x => .str x
  | _, _, .lst h r => .lst (e _ _ h) (DaL.same e r)
  | _, _, .tup h r => .tup (sameT e h) (DaL.same e r)
  | _, _, .dct h r => .dct (e _ _ h) (DaL.same e r)
theorem DaL.same (e : Same H H') : ∀ {vs : List V} {ds : List PyData}, DaL K H vs ds → DaL K H' vs ds
  | _, _, .nil => .nil
  | _, _, .cons h r => .cons (Da.same e h) (DaL.same e r)
end
theorem DaL.append : ∀ {vs ws : List V} {ds es : List PyData}, DaL K H vs ds → DaL K H ws es → DaL K H (vs ++ ws) (ds ++ es)
  | _, _, _, _, .nil, r => r
  | _, _, _, _, .cons h t, r => .cons h (DaL.append t r)
theorem DaL.strs : ∀ l : List Str, DaL K H (l.map V.str) (l.map PyData.str)
  | [] => .nil
  | x :: l => .cons (.str x) (DaL.strs l)
theorem DaL.ints : ∀ l : List Int, DaL K H (l.map V.int) (l.map PyData.int)
  | [] => .nil
  | x :: l => .cons (.int x) (DaL.ints l)
theorem DaL.bls : ∀ l : List Bool, DaL K H (l.map V.bl) (l.map PyData.bool)
  | [] => .nil
  | x :: l => .cons (.bl x) (DaL.bls l)
end
/-! ### what stands there is read -/
section
variable {X : Cx} {pins : List (Addr × Obj)} {σ : L2.St} {H : Hp} {s : Shared}
abbrev Free (as : List Addr) : Prop := sysModules ∉ as
theorem free_cons {a : Addr} {as : List Addr} (h : a ≠ sysModules) (r : Free as) : Free (a :: as) := fun m =>
  (List.mem_cons.mp m).elim (fun e => h e.symm) r
theorem free_app {as bs : List Addr} (h : Free as) (r : Free bs) : Free (as ++ bs) := fun m => (List.mem_append.mp m).elim h r
theorem notSys (I : Inv X pins σ H s) (hS : SysIn X.base) {a : Addr} {o : HO} (h : H a = some o) : a ≠ sysModules := by
  rintro rfl
  obtain ⟨ob, hb⟩ := hS
  rw [(I.bs _ _ hb).2] at h
  exact nomatch h
theorem key_reads : ∀ (kvs : List (Key × V)) (vs : List (Key × Value)) (es : List DictEntry), KV kvs vs → Pairs (mixKind X.prog X.w) es vs →
    (∃ as, ReadsAll s.heap (es.map (·.key)) (kvs.map fun p => kD p.1) as ∧ Free as) ∧ Vals (kvs.map (·.2)) (es.map (·.val))
  | _, _, _, .nil, .nil => ⟨⟨[], .nil, List.not_mem_nil⟩, .nil⟩
  | _, _, _, .cons ⟨ek, rv⟩ r, .cons hk hv p => by
    obtain ⟨⟨as, h1, h2⟩, h3⟩ := key_reads _ _ _ r p
    refine ⟨?_, .cons (by show RelV _ (DictEntry.val _); rw [hv]; exact rv) h3⟩
    rw [← ek] at hk
    rcases keyIs_shape hk with ⟨i, t, e1, e2⟩ | ⟨y, t, e1, e2⟩
    · refine ⟨[] ++ as, ?_, h2⟩
      refine .cons ?_ h1
      show Reads _ (DictEntry.key _) (kD _) []
      rw [e1, e2]
      exact .int i t
    · refine ⟨[] ++ as, ?_, h2⟩
      refine .cons ?_ h1
      show Reads _ (DictEntry.key _) (kD _) []
      rw [e1, e2]
      exact .str y t
theorem zip_fst : ∀ (ks ds : List PyData), ks.length = ds.length → (ks.zip ds).map (·.1) = ks
  | [], _, _ => rfl
  | _ :: _, [], h => nomatch h
  | k :: ks, d :: ds, h => by
    show k :: (ks.zip ds).map (·.1) = k :: ks
    rw [zip_fst ks ds (Nat.succ.inj h)]
theorem zip_snd : ∀ (ks ds : List PyData), ks.length = ds.length → (ks.zip ds).map (·.2) = ds
  | [], [], _ => rfl
  | [], _ :: _, h => nomatch h
  | _ :: _, [], h => nomatch h
  | k :: ks, d :: ds, h => by
    show d :: (ks.zip ds).map (·.2) = d :: ds
    rw [zip_snd ks ds (Nat.succ.inj h)]
mutual
theorem Da.reads (I : Inv X pins σ H s) (hS : SysIn X.base) : ∀ {v : V} {d : PyData} {u : Value}, Da X.K H v d → RelV v u → ∃ as, Reads s.heap u d as ∧ Free as
  | _, _, _, .non, r => by
    cases r
    exact ⟨_, .none, List.not_mem_nil⟩
  | _, _, _, .bl b, r => by
    cases r
    exact ⟨_, .bool b, List.not_mem_nil⟩
  | _, _, _, .int i, ⟨t, r⟩ => by
    cases r
    exact ⟨_, .int i t, List.not_mem_nil⟩
  | _, _, _, .str x, ⟨t, r⟩ => by
    cases r
    exact ⟨_, .str x t, List.not_mem_nil⟩
  | _, _, _, .lst h q, r => by
    cases r
    obtain ⟨_, its, n, rv, ho⟩ := I.hok _ _ h
    obtain ⟨as, h1, h2⟩ := DaL.reads I hS q rv
    exact ⟨_, .list ho rfl rfl h1, free_cons (notSys I hS h) h2⟩
  | _, _, _, .tup h q, r => by
    cases r
    obtain ⟨its, rv, ⟨o, ho, hc, n, hd⟩, _⟩ := I.tuple h
    obtain ⟨as, h1, h2⟩ := DaL.reads I hS q rv
    exact ⟨_, .tuple ho hc hd h1, h2⟩
  | _, _, _, .dct (kvs := kvs) (ds := ds) h q, r => by
    cases r
    obtain ⟨_, hns, vs, rk, o, es, ep, ho, hex, hd, _, hp, _⟩ := I.hok _ _ h
    obtain ⟨⟨as, k1, k2⟩, rv⟩ := key_reads (s := s) kvs vs es.toList rk hp
    obtain ⟨bs, v1, v2⟩ := DaL.reads I hS q rv
    have hl : (kvs.map fun p => kD p.1).length = ds.length := by
      rw [q.length, List.length_map, List.length_map]
    have k1' : ReadsAll s.heap (es.toList.map (·.key)) (((kvs.map fun p => kD p.1).zip ds).map (·.1)) as := by
      rw [zip_fst _ _ hl]
      exact k1
    have v1' : ReadsAll s.heap (es.toList.map (·.val)) (((kvs.map fun p => kD p.1).zip ds).map (·.2)) bs := by
      rw [zip_snd _ _ hl]
      exact v1
    exact ⟨_, .dict ho hex.1 hd k1' v1', free_app (free_cons (notSys I hS h) k2) v2⟩
theorem DaL.reads (I : Inv X pins σ H s) (hS : SysIn X.base) : ∀ {vs : List V} {ds : List PyData} {us : List Value}, DaL X.K H vs ds → Vals vs us → ∃ as, ReadsAll s.heap us ds as ∧ Free as
  | _, _, _, .nil, .nil => ⟨_, .nil, List.not_mem_nil⟩
  | _, _, _, .cons h q, .cons r rs => by
    obtain ⟨as, h1, h2⟩ := Da.reads I hS h r
    obtain ⟨bs, h3, h4⟩ := DaL.reads I hS q rs
    exact ⟨_, .cons h1 h3, free_app h2 h4⟩
end
end
/-! ### the room that a written form takes -/
mutual
/-- more than its written form has signs -/
def wid : PyData → Nat
  | .none => 4
  | .bool _ => 5
  | .int i => i.natAbs.log2 + 3
  | .str x => 10 * x.length + 2
  | .list xs => widL xs + 2
  | .tuple xs => widL xs + 3
  | .dict kvs => widK kvs + 2
def widL : List PyData → Nat
  | [] => 0
  | x :: xs => wid x + 2 + widL xs
def widK : List (PyData × PyData) → Nat
  | [] => 0
  | (k, v) :: r => wid k + wid v + 4 + widK r
end
mutual
/-- it can be written: the signs of its texts are signs, its numbers are not too great -/
def Ok1 : PyData → Prop
  | .none => True
  | .bool _ => True
  | .int i => i.natAbs.log2 < 1920
  | .str x => ∀ c ∈ x.cps.toList, c < 16 ^ 8
  | .list xs => OkL xs
  | .tuple xs => OkL xs
  | .dict kvs => OkK kvs
def OkL : List PyData → Prop
  | [] => True
  | x :: xs => Ok1 x ∧ OkL xs
def OkK : List (PyData × PyData) → Prop
  | [] => True
  | (k, v) :: r => Ok1 k ∧ Ok1 v ∧ OkK r
end

mutual
theorem ok_show : ∀ d : PyData, Ok1 d → d.showable = true
  | .none, _ => rfl
  | .bool _, _ => rfl
  | .int _, h => decide_eq_true h
  | .str _, _ => rfl
  | .list xs, h => ok_showL xs h
  | .tuple xs, h => ok_showL xs h
  | .dict kvs, h => ok_showK kvs h
theorem ok_showL : ∀ xs : List PyData, OkL xs → PyData.showableAll xs = true
  | [], _ => rfl
  | x :: xs, h => by
    show (PyData.showable x && PyData.showableAll xs) = true
    rw [ok_show x h.1, ok_showL xs h.2]
    rfl
theorem ok_showK : ∀ xs : List (PyData × PyData), OkK xs → PyData.showableKv xs = true
  | [], _ => rfl
  | (k, v) :: xs, h => by
    show (PyData.showable k && PyData.showable v && PyData.showableKv xs) = true
    rw [ok_show k h.1, ok_show v h.2.1, ok_showK xs h.2.2]
    rfl
end
theorem textFrom_le : ∀ (ts : List Str) (k : Nat) (acc : Str), (textFrom k acc ts).length ≤ acc.length + (ts.map fun t => t.length + 2).sum
  | [], _, acc => Nat.le_add_right _ _
  | t :: r, k, acc => by
    have ih := textFrom_le r (k + 1) (acc ++ (if k > 0 then ", " else "" : String) ++ t)
    rw [strLen_append, strLen_append] at ih
    have e : (((if k > 0 then ", " else "" : String) : Str)).length ≤ 2 := by split <;> decide +kernel
    rw [List.map_cons, List.sum_cons]
    show (textFrom (k + 1) (acc ++ (if k > 0 then ", " else "" : String) ++ t) r).length ≤ _
    omega
theorem listText_le (ts : List Str) : (listText ts).length ≤ 2 + (ts.map fun t => t.length + 2).sum := by
  have h := textFrom_le ts 0 "["
  have e1 : (("[" : String) : Str).length = 1 := by decide +kernel
  have e2 : (("]" : String) : Str).length = 1 := by decide +kernel
  unfold listText
  rw [strLen_append]
  omega
theorem piled_map : ∀ ts : List Str, piled ts = (ts.map fun t => t.length + 2).sum
  | [] => rfl
  | t :: r => by
    rw [piled_cons, piled_map r, List.map_cons, List.sum_cons]
theorem join_le (ts : List Str) : (Str.join ", " ts).length ≤ (ts.map fun t => t.length + 2).sum := by
  by_cases h : ts = []
  · subst h
    decide +kernel
  · have := join_length_add ts h
    rw [piled_map] at this
    omega
theorem tupleText_le (ts : List Str) : (tupleText ts).length ≤ 3 + (ts.map fun t => t.length + 2).sum := by
  have e3 : (((if ts.length == 1 then ",)" else ")" : String) : Str)).length ≤ 2 := by split <;> decide +kernel
  have e1 : (("(" : String) : Str).length = 1 := by decide +kernel
  have h := join_le ts
  unfold tupleText
  rw [strLen_append, strLen_append]
  omega
theorem dictText_le (ts : List Str) : (dictText ts).length ≤ 2 + (ts.map fun t => t.length + 2).sum := by
  have e1 : (("{" : String) : Str).length = 1 := by decide +kernel
  have e2 : (("}" : String) : Str).length = 1 := by decide +kernel
  have h := join_le ts
  unfold dictText
  rw [strLen_append, strLen_append]
  omega
mutual
theorem wid_le : ∀ d : PyData, Ok1 d → d.shown.length ≤ wid d
  | .none, _ => by show (("None" : String) : Str).length ≤ 4; decide +kernel
  | .bool b, _ => by cases b <;> (show Str.length _ ≤ 5) <;> decide +kernel
  | .int i, _ => by
    have h := int_text_length_le (a := i) (k := i.natAbs.log2 + 1) (Nat.succ_pos _) (Nat.lt_succ_self _)
    show (Str.ofString (toString i)).length ≤ i.natAbs.log2 + 3
    have e : (Str.ofString (toString i)).length = (toString i).length := PySem.ofString_length _
    omega
  | .str x, h => StrLaws.reprText_len x h
  | .list xs, h => by
    have h1 := widL_le xs h
    have h2 := listText_le (PyData.shownAll xs)
    show (listText (PyData.shownAll xs)).length ≤ widL xs + 2
    omega
  | .tuple xs, h => by
    have h1 := widL_le xs h
    have h2 := tupleText_le (PyData.shownAll xs)
    show (tupleText (PyData.shownAll xs)).length ≤ widL xs + 3
    omega
  | .dict xs, h => by
    have h1 := widK_le xs h
    have h2 := dictText_le (PyData.shownKv xs)
    show (dictText (PyData.shownKv xs)).length ≤ widK xs + 2
    omega
theorem widL_le : ∀ xs : List PyData, OkL xs → ((PyData.shownAll xs).map fun t => t.length + 2).sum ≤ widL xs
  | [], _ => Nat.le_refl _
  | x :: xs, h => by
    have h1 := wid_le x h.1
    have h2 := widL_le xs h.2
    show (x.shown.length + 2) + ((PyData.shownAll xs).map fun t => t.length + 2).sum ≤ wid x + 2 + widL xs
    omega
theorem widK_le : ∀ xs : List (PyData × PyData), OkK xs → ((PyData.shownKv xs).map fun t => t.length + 2).sum ≤ widK xs
  | [], _ => Nat.le_refl _
  | (k, v) :: xs, h => by
    have h1 := wid_le k h.1
    have h2 := wid_le v h.2.1
    have h3 := widK_le xs h.2.2
    have e2 : ((": " : String) : Str).length = 2 := by decide +kernel
    show ((k.shown ++ ": " ++ v.shown).length + 2) + ((PyData.shownKv xs).map fun t => t.length + 2).sum ≤ wid k + wid v + 4 + widK xs
    rw [strLen_append, strLen_append]
    omega
end
/-- repr of data: the text, all else as it stood -/
theorem call_repr {X : Cx} (hc : Clean X.A) (hS : SysIn X.base) (hu : X.A.units + 100 < cLine) : CallR X (.builtin "repr") (fun xs H Q => ∃ x d, xs = [x] ∧ Da X.K H x d ∧ Ok1 d ∧ wid d ≤ sizeLine ∧ d.depth ≤ 64 ∧ Q (.str d.shown) H) := by
  intro pins s σ H xs us Q I r h
  obtain ⟨x, d, rfl, hd, ok, hz, hdp, q⟩ := h
  obtain ⟨u, rfl, ru⟩ := vals1 r
  have hz' : d.shown.length ≤ sizeLine := Nat.le_trans (wid_le d ok) hz
  obtain ⟨as, hr, hf⟩ := Da.reads I hS hd ru
  have fin : ∀ (t tk : Tok) (h' : Heap), (∀ b o, s.heap.get? b = some o → h'.get? b = some o) → EP X pins σ Q (.str d.shown t) { s with heap := h', toks := tk } :=
    fun t tk h' k => ⟨.str d.shown, H, I.kept k, ⟨t, rfl⟩, q⟩
  cases hd with
  | non =>
    cases ru
    exact PySem.P.repr_of_none (fin _ _ s.heap fun _ _ e => e)
  | bl b =>
    cases ru
    exact PySem.P.repr_of_bool (fin _ _ s.heap fun _ _ e => e)
  | int i =>
    obtain ⟨t, rfl⟩ := ru
    exact PySem.P.repr_of_int ok (fin _ _ s.heap fun _ _ e => e)
  | str y =>
    obtain ⟨t, rfl⟩ := ru
    exact PySem.P.repr_of_str (fin _ _ s.heap fun _ _ e => e) hz'
  | lst h1 h2 =>
    cases ru
    exact repr_of_reads' hr (ok_show _ ok) (fun _ => hf) hc (by omega) (fun _ _ e => e) (fun h' u tk k => fin u tk h' k) hz'
  | tup h1 h2 =>
    cases ru
    exact repr_of_reads' hr (ok_show _ ok) (fun _ => hf) hc (by omega) (fun _ _ e => e) (fun h' u tk k => fin u tk h' k) hz'
  | dct h1 h2 =>
    cases ru
    exact repr_of_reads' hr (ok_show _ ok) (fun _ => hf) hc (by omega) (fun _ _ e => e) (fun h' u tk k => fin u tk h' k) hz'
end Gd

namespace Gd
open PySem PySem.Spec PyProof.Rows L2
/-! ### a def as its callers see it -/
structure Df (P : Program) (w : World) (K : PySem.W.Frag) (mg : Str → Option Value) (base : Heap) (CX : CXT) (k : Nat) (x : Str) (f : Addr) (fd : FuncData) (ps : List Str) (sp : Sp) : Prop where
  G : FnG P w K mg base CX k f fd ps sp
  m : mg x = some (.ref f)
  kp : PySem.W.keepIn K (.ref f) = true
  b : Binds K fd ps []
theorem room100 {k : Nat} {A : Around} (r : Room k A) : A.units + 100 < cLine := by
  have := r.un
  omega
section
variable {X : Cx} {CX : CXT} {k n : Nat} {f : Addr} {fd : FuncData} {ps ks : List Str} {sp : Sp} {E : L2.St → XK} {x : Str} {p pos : Pos} {e : Expr} {es : List Expr} {t tk : TA} {kws : List Keyword}
  {g : List Value → List Value → List Value} {gV : List V → List V → List V}
theorem pe_k {v : V} {x : Str} {pos : Pos} (hg : Gl X x) (h : ∃ u, X.mg x = some u ∧ RelV v u) (hd : (x == ("__debug__" : Str)) = false := by decide) : PE X (.Name x pos) (tC v) :=
  let ⟨_, h1, h2⟩ := h
  pe_glob hg h1 h2 hd
theorem pe_d (D : Df X.prog X.w X.K X.mg X.base CX k x f fd ps sp) (hc : Clean X.A) (hr : Room k X.A) (hg : Gl X x) (hx : ∀ σ, PassesAt CX X σ (E σ)) (ha : PA X (e :: es) t) (hdb : (x == ("__debug__" : Str)) = false := by decide)
    (he : starEach (e :: es) X.env = (false, eval e X.env) :: starEach es X.env := by rfl) (hpl : (backTo pos (starEach es X.env)).any (·.1) = false := by rfl) :
    PE X (.Call (.Name x p) (e :: es) [] pos) (tCallG sp [] E t) := pe_c D.G hc hr hg D.m D.kp D.b .nil hx ha hdb he hpl
theorem pe_d0 (D : Df X.prog X.w X.K X.mg X.base CX k x f fd ps sp) (hc : Clean X.A) (hr : Room k X.A) (hg : Gl X x) (hx : ∀ σ, PassesAt CX X σ (E σ)) (hdb : (x == ("__debug__" : Str)) = false := by decide) :
    PE X (.Call (.Name x p) [] [] pos) (tCallG sp [] E tNil) := pe_c0 D.G hc hr hg D.m D.kp D.b .nil hx hdb
/-- with defaults -/
structure Dd (P : Program) (w : World) (K : PySem.W.Frag) (mg : Str → Option Value) (base : Heap) (CX : CXT) (k : Nat) (x : Str) (f : Addr) (fd : FuncData) (ps : List Str) (dvs : List V) (sp : Sp) : Prop where
  G : FnG P w K mg base CX k f fd ps sp
  m : mg x = some (.ref f)
  kp : PySem.W.keepIn K (.ref f) = true
  b : ∃ ds, Vals dvs ds ∧ Binds K fd ps ds
theorem pe_dd {dvs : List V} (D : Dd X.prog X.w X.K X.mg X.base CX k x f fd ps dvs sp) (hc : Clean X.A) (hr : Room k X.A) (hg : Gl X x) (hx : ∀ σ, PassesAt CX X σ (E σ)) (ha : PA X (e :: es) t) (hdb : (x == ("__debug__" : Str)) = false := by decide)
    (he : starEach (e :: es) X.env = (false, eval e X.env) :: starEach es X.env := by rfl) (hpl : (backTo pos (starEach es X.env)).any (·.1) = false := by rfl) :
    PE X (.Call (.Name x p) (e :: es) [] pos) (tCallG sp dvs E t) :=
  let ⟨_, hd, hb⟩ := D.b
  pe_c D.G hc hr hg D.m D.kp hb hd hx ha hdb he hpl
/-- called with keywords -/
structure Dk (P : Program) (w : World) (K : PySem.W.Frag) (mg : Str → Option Value) (base : Heap) (CX : CXT) (k : Nat) (x : Str) (f : Addr) (fd : FuncData) (ps : List Str) (sp : Sp) (n : Nat) (ks : List Str) (gV : List V → List V → List V) : Prop where
  G : FnG P w K mg base CX k f fd ps sp
  m : mg x = some (.ref f)
  kp : PySem.W.keepIn K (.ref f) = true
  b : ∃ g, KBn K fd ps n ks g gV
theorem pe_dk (D : Dk X.prog X.w X.K X.mg X.base CX k x f fd ps sp n ks gV) (hc : Clean X.A) (hr : Room k X.A) (hg : Gl X x) (hx : ∀ σ, PassesAt CX X σ (E σ)) (ha : PA X (e :: es) t) (hkw : PK X kws tk)
    (hall : (backToKw pos (keywordEach kws X.env)).all (·.1.isSome) = true := by rfl) (hks : (backToKw pos (keywordEach kws X.env)).filterMap (·.1) = ks := by rfl) (hdb : (x == ("__debug__" : Str)) = false := by decide)
    (he : starEach (e :: es) X.env = (false, eval e X.env) :: starEach es X.env := by rfl)
    (hpl : ((backTo pos (starEach (e :: es) X.env)).any (·.1) || (backToKw pos (keywordEach kws X.env)).any (·.1.isNone)) = false := by rfl) :
    PE X (.Call (.Name x p) (e :: es) kws pos) (tCallH n ks.length sp gV E t tk) :=
  let ⟨_, hb⟩ := D.b
  pe_h D.G hc hr hg D.m D.kp hb hx ha hkw hall hks hdb he hpl
theorem pe_dk0 (D : Dk X.prog X.w X.K X.mg X.base CX k x f fd ps sp 0 ks gV) (hc : Clean X.A) (hr : Room k X.A) (hg : Gl X x) (hx : ∀ σ, PassesAt CX X σ (E σ)) (hkw : PK X kws tk)
    (hall : (backToKw pos (keywordEach kws X.env)).all (·.1.isSome) = true := by rfl) (hks : (backToKw pos (keywordEach kws X.env)).filterMap (·.1) = ks := by rfl) (hdb : (x == ("__debug__" : Str)) = false := by decide)
    (hpl : ((backTo pos (starEach [] X.env)).any (·.1) || (backToKw pos (keywordEach kws X.env)).any (·.1.isNone)) = false := by rfl) :
    PE X (.Call (.Name x p) [] kws pos) (tCallH 0 ks.length sp gV E tNil tk) :=
  let ⟨_, hb⟩ := D.b
  pe_h0 D.G hc hr hg D.m D.kp hb hx hkw hall hks hdb hpl
end
/-! ### is True, is not False -/
section
variable {X : Cx}
theorem rel_bl {x : V} {u : Value} {b : Bool} (r : RelV x u) (h : x ≠ .bl b) : u ≠ Value.bool b := by
  intro e
  subst e
  cases x with
  | bl c =>
    have : Value.bool b = Value.bool c := r
    cases this
    exact h rfl
  | non => exact nomatch (r : Value.bool b = Value.none)
  | int _ => obtain ⟨_, q⟩ := r; exact nomatch q
  | str _ => obtain ⟨_, q⟩ := r; exact nomatch q
  | byt _ => obtain ⟨_, q⟩ := r; exact nomatch q
  | flt _ => obtain ⟨_, q⟩ := r; exact nomatch q
  | ref a => exact nomatch (r : Value.bool b = Value.ref a)
  | ty n => exact nomatch (r : Value.bool b = Value.type n)
theorem plain_bl {x : V} {u : Value} {b : Bool} (r : RelV x u) : plainIs u (Value.bool b) = true := by
  cases x with
  | bl c => cases (show u = Value.bool c from r); rfl
  | non => cases (show u = Value.none from r); rfl
  | int _ => obtain ⟨_, q⟩ := r; subst q; rfl
  | str _ => obtain ⟨_, q⟩ := r; subst q; rfl
  | byt _ => obtain ⟨_, q⟩ := r; subst q; rfl
  | flt _ => obtain ⟨_, q⟩ := r; subst q; rfl
  | ref a => cases (show u = Value.ref a from r); rfl
  | ty n => cases (show u = Value.type n from r); rfl
theorem op_isB : OpR X (compareOp .Is) (fun x y H Q => ∃ b, y = .bl b ∧ Q (.bl (decide (x = .bl b))) H) := by
  intro pins s σ H x y v u Q I rx ry h
  obtain ⟨b, rfl, q⟩ := h
  cases (show u = Value.bool b from ry)
  by_cases e : x = .bl b
  · subst e
    cases (show v = Value.bool b from rx)
    exact wpAny_is_self rfl ⟨.bl true, H, I, rfl, by simpa using q⟩
  · exact wpAny_is_other (plain_bl rx) (rel_bl rx e) ⟨.bl false, H, I, rfl, by simpa [e] using q⟩
theorem op_notB : OpR X (compareOp .IsNot) (fun x y H Q => ∃ b, y = .bl b ∧ Q (.bl (!decide (x = .bl b))) H) := by
  intro pins s σ H x y v u Q I rx ry h
  obtain ⟨b, rfl, q⟩ := h
  cases (show u = Value.bool b from ry)
  by_cases e : x = .bl b
  · subst e
    cases (show v = Value.bool b from rx)
    exact wpAny_isNot_self rfl ⟨.bl false, H, I, rfl, by simpa using q⟩
  · exact wpAny_isNot_other (plain_bl rx) (rel_bl rx e) ⟨.bl true, H, I, rfl, by simpa [e] using q⟩
/-! ### s * n -/
def repS (x : Str) (n : Int) : Str := ⟨(List.replicate n.toNat x.cps).foldl (· ++ ·) #[]⟩
theorem fold_app (c : Array Nat) : ∀ (n : Nat) (a : Array Nat), ((List.replicate n c).foldl (· ++ ·) a).toList = a.toList ++ (List.replicate n c.toList).flatten
  | 0, a => by simp
  | n + 1, a => by
    rw [List.replicate_succ, List.foldl_cons, fold_app c n (a ++ c), List.replicate_succ, List.flatten_cons, Array.toList_append, List.append_assoc]
theorem repS_list (x : Str) (n : Int) : (repS x n).cps.toList = (List.replicate n.toNat x.cps.toList).flatten := by
  show ((List.replicate n.toNat x.cps).foldl (· ++ ·) #[]).toList = _
  rw [fold_app]
  rfl
theorem op_repS : OpR X (binaryOp .Mult) (fun x y H Q => ∃ z n, x = .str z ∧ y = .int n ∧ 1 < n ∧ n < 1000000 ∧ z.length ≠ 0 ∧ z.length * n.toNat ≤ sizeLine ∧ Q (.str (repS z n)) H) := by
  intro pins s σ H x y v u Q I rx ry h
  obtain ⟨z, n, rfl, rfl, h1, h2, h0, hz, q⟩ := h
  obtain ⟨t, rfl⟩ := rx
  obtain ⟨t', rfl⟩ := ry
  have e1 : (n == 1 || z.length == 0) = false := by
    rw [Bool.or_eq_false_iff]
    exact ⟨beq_eq_false_iff_ne.mpr (by omega), beq_eq_false_iff_ne.mpr h0⟩
  have hb : ¬ (z.length : Int) > (2 ^ 63 - 1) / n := by
    intro c
    have hs := hz
    rw [sizeLine_eq] at hs
    have h3 : (z.length : Int) * n ≤ 16777216 := by
      have h4 : ((z.length * n.toNat : Nat) : Int) ≤ 16777216 := Int.ofNat_le.mpr hs
      rw [Int.natCast_mul, Int.toNat_of_nonneg (by omega)] at h4
      exact h4
    have h5 : (z.length : Int) ≤ 16777216 := by
      have h6 : (1 : Int) ≤ z.length := by omega
      have h7 : (z.length : Int) * 1 ≤ (z.length : Int) * n := Int.mul_le_mul_of_nonneg_left (by omega) (by omega)
      omega
    have h8 : (2 ^ 63 - 1 : Int) / n ≥ (2 ^ 63 - 1) / 1000000 := by
      have : (2 ^ 63 - 1 : Int) / 1000000 * n ≤ (2 ^ 63 - 1) := by
        have h9 : (2 ^ 63 - 1 : Int) / 1000000 = 9223372036854 := by decide
        rw [h9]
        omega
      exact (Int.le_ediv_iff_mul_le (by omega)).mpr this
    have h10 : (2 ^ 63 - 1 : Int) / 1000000 = 9223372036854 := by decide
    omega
  refine PySem.P.mul_str (by rw [Bool.or_eq_false_iff]; exact ⟨decide_eq_false (by omega), decide_eq_false (by omega)⟩) (fun _ _ => hb) (fun _ _ => ?_) ?_
  · unfold Builtin.Str.tooLong
    exact decide_eq_false (by omega)
  · rw [if_neg (by omega), if_neg (by rw [e1]; exact Bool.false_ne_true)]
    have hl : (repS z n).length ≤ sizeLine := by
      have e : (repS z n).length = z.length * n.toNat := by
        show (repS z n).cps.size = _
        rw [← Array.length_toList, repS_list, List.length_flatten, List.map_replicate, List.sum_replicate_nat]
        show n.toNat * z.cps.toList.length = _
        rw [Array.length_toList, Nat.mul_comm]
        rfl
      omega
    exact ⟨hl, ⟨.str (repS z n), H, I.tok _, ⟨_, rfl⟩, q⟩⟩
end
end Gd

namespace Gd
open PySem PySem.Spec PyProof.Rows L2
/-! ### the kind of a value -/
inductive Kind where
  | non | bl | int | str | lst | tup | dct | odd
  deriving DecidableEq
def Kind.name : Kind → String
  | .non => "NoneType"
  | .bl => "bool"
  | .int => "int"
  | .str => "str"
  | .lst => "list"
  | .tup => "tuple"
  | .dct => "dict"
  | .odd => "?"
def kindO : Option HO → Kind
  | some (.lst _) => .lst
  | some (.tup _) => .tup
  | some (.dK _) => .dct
  | _ => .odd
def kind (H : Hp) : V → Kind
  | .non => .non
  | .bl _ => .bl
  | .int _ => .int
  | .str _ => .str
  | .ref a => kindO (H a)
  | _ => .odd
abbrev Pv (H : Hp) (v : V) : Prop := kind H v ≠ .odd
/-- isinstance of such a value -/
def inst (n : String) (k : Kind) : Bool := k.name == n || (n == "int" && k == .bl)
theorem kind_ty {K : PySem.W.Frag} {H : Hp} {v : V} (h : Pv H v) : TyX K H v (.type (kind H v).name) := by
  cases v with
  | non => exact .base .non
  | bl b => exact .base (.bl b)
  | int i => exact .base (.int i)
  | str x => exact .base (.str x)
  | byt b => exact absurd rfl h
  | flt b => exact absurd rfl h
  | ty n => exact absurd rfl h
  | ref a =>
    change kindO (H a) ≠ .odd at h
    show TyX K H (.ref a) (.type (kindO (H a)).name)
    cases e : H a with
    | none => rw [e] at h; exact absurd rfl h
    | some o =>
      rw [e] at h
      cases o with
      | lst xs => exact .base (.lst e)
      | tup xs => exact .base (.tup e)
      | dK kvs => exact .base (.dK e)
      | _ => exact absurd rfl h
abbrev Cn (n : String) : Prop := n = "int" ∨ n = "str" ∨ n = "bool" ∨ n = "list" ∨ n = "tuple" ∨ n = "dict"
theorem kit_kind {K : PySem.W.Frag} {H : Hp} {v : V} (h : Pv H v) {n : String} (hn : Cn n) : PySem.W.kitOne K (.type (kind H v).name) (.type n) = some (inst n (kind H v)) := by
  apply kit_ty
  revert h
  unfold Pv
  generalize kind H v = k
  intro h
  rcases hn with rfl | rfl | rfl | rfl | rfl | rfl <;> cases k <;> first | exact absurd rfl h | decide +kernel
section
variable {X : Cx}
theorem call_isk : CallR X (.builtin "isinstance") (fun xs H Q => ∃ x n, xs = [x, .ty n] ∧ Cn n ∧ Pv H x ∧ Q (.bl (inst n (kind H x))) H) := by
  intro pins s σ H xs us Q I r h
  obtain ⟨x, n, rfl, hn, hv, q⟩ := h
  exact call_isi pins s σ H _ us Q I r ⟨x, .ty n, _, _, _, rfl, .ty n, kind_ty hv, kit_kind hv hn, q⟩
/-- (list, tuple) and its like -/
theorem call_isk2 : CallR X (.builtin "isinstance") (fun xs H Q => ∃ x t n m, xs = [x, .ref t] ∧ H t = some (.tup [.ty n, .ty m]) ∧ Cn n ∧ Cn m ∧ Pv H x ∧ Q (.bl (inst n (kind H x) || inst m (kind H x))) H) := by
  intro pins s σ H xs us Q I r h
  obtain ⟨x, t, n, m, rfl, ht, hn, hm, hv, q⟩ := h
  refine call_isiT pins s σ H _ us Q I r ⟨x, t, [.ty n, .ty m], _, [.type n, .type m], _, rfl, ht, .cons (.ty n) (.cons (.ty m) .nil), kind_ty hv, ?_, q⟩
  refine kitAny_cons (kit_kind hv hn) (fun e1 => ?_) (fun e1 => ?_)
  · rw [e1, Bool.false_or]
    exact kitAny_cons (kit_kind hv hm) (fun e2 => by rw [e2]; exact kitAny_nil) fun e2 => e2
  · rw [e1]
    rfl
end
/-- an int other than True and False -/
def isInt : V → Bool
  | .int _ => true
  | _ => false
def isStr : V → Bool
  | .str _ => true
  | _ => false
theorem kind_ref {H : Hp} {a : Addr} : kind H (.ref a) = .lst ∨ kind H (.ref a) = .tup ∨ kind H (.ref a) = .dct ∨ kind H (.ref a) = .odd := by
  show kindO (H a) = _ ∨ kindO (H a) = _ ∨ kindO (H a) = _ ∨ kindO (H a) = _
  cases H a with
  | none => exact .inr (.inr (.inr rfl))
  | some o =>
    cases o <;> first | exact .inl rfl | exact .inr (.inl rfl) | exact .inr (.inr (.inl rfl)) | exact .inr (.inr (.inr rfl))
theorem isInt_kind (H : Hp) (v : V) : (inst "int" (kind H v) && !inst "bool" (kind H v)) = isInt v := by
  cases v with
  | ref a =>
    show _ = false
    rcases kind_ref (H := H) (a := a) with e | e | e | e <;> rw [e] <;> decide +kernel
  | _ => rfl
theorem isStr_kind (H : Hp) (v : V) : inst "str" (kind H v) = isStr v := by
  cases v with
  | ref a =>
    show _ = false
    rcases kind_ref (H := H) (a := a) with e | e | e | e <;> rw [e] <;> decide +kernel
  | _ => rfl
theorem kind_same {H H' : Hp} (e : Same H H') {v : V} (h : Pv H v) : kind H' v = kind H v := by
  cases v with
  | ref a =>
    change kindO (H a) ≠ .odd at h
    show kindO (H' a) = kindO (H a)
    cases q : H a with
    | none => rw [q] at h; exact absurd rfl h
    | some o => rw [e a o q]
  | _ => rfl
theorem Pv.same {H H' : Hp} (e : Same H H') {v : V} (h : Pv H v) : Pv H' v := by
  unfold Pv
  rw [kind_same e h]
  exact h
theorem isStr_iff {v : V} (h : isStr v = true) : ∃ x, v = .str x := by
  cases v <;> first | exact ⟨_, rfl⟩ | exact absurd h Bool.false_ne_true
theorem isInt_iff {v : V} (h : isInt v = true) : ∃ x, v = .int x := by
  cases v <;> first | exact ⟨_, rfl⟩ | exact absurd h Bool.false_ne_true
end Gd

namespace Gd
open PySem L2
/-! ### the law's pool of digits -/
/-- it stands at p -/
def BoxAt (H : Hp) (p : Addr) : Prop := ∃ a b c : Int, H p = some (.lst [.int a, .int b, .int c]) ∧ 0 ≤ b ∧ b < 2147483647
/-- it may have turned, nothing else has -/
def Turned (H H' : Hp) (p : Addr) : Prop := BoxAt H' p ∧ ∀ q, q ≠ p → H' q = H q
theorem Turned.refl {H : Hp} {p : Addr} (b : BoxAt H p) : Turned H H p := ⟨b, fun _ _ => rfl⟩
theorem Turned.trans {H H1 H2 : Hp} {p : Addr} (a : Turned H H1 p) (b : Turned H1 H2 p) : Turned H H2 p := ⟨b.1, fun q hq => (b.2 q hq).trans (a.2 q hq)⟩
theorem Turned.box {H H' : Hp} {p : Addr} (t : Turned H H' p) : BoxAt H' p := t.1
theorem Turned.at {H H' : Hp} {p q : Addr} {o : HO} (t : Turned H H' p) (hq : q ≠ p) (h : H q = some o) : H' q = some o := (t.2 q hq).trans h
theorem turned_upd {H : Hp} {p : Addr} {a b c : Int} (h0 : 0 ≤ b) (h1 : b < 2147483647) : Turned H (upd H p (.lst [.int a, .int b, .int c])) p :=
  ⟨⟨a, b, c, upd_same, h0, h1⟩, fun q hq => upd_ne hq⟩
theorem BoxAt.some {H : Hp} {p : Addr} (b : BoxAt H p) : ∃ o, H p = some o := let ⟨_, _, _, h, _⟩ := b; ⟨_, h⟩
theorem BoxAt.upd {H : Hp} {p q : Addr} {o : HO} (b : BoxAt H p) (hq : H q = none) : BoxAt (upd H q o) p := by
  obtain ⟨x, y, z, h, r⟩ := b
  exact ⟨x, y, z, by rw [upd_ne (ne_of_none h hq)]; exact h, r⟩
def spScr (K : PySem.W.Frag) : Sp := fun vs H Q _ => ∃ (a : Addr) (ns : List Int) (k : Int), vs = [.ref a, .int k] ∧ SqL K H a (ns.map V.int) ∧ 0 ≤ k ∧ k < 1000 ∧ ∀ z, Q (.int z) H
def spBox : Sp := fun vs H Q _ => ∃ z : Int, vs = [.int z] ∧ ∀ (p : Addr) (o : HO), H p = none → BoxAt (upd H p o) p → Q (.ref p) (upd H p o)
def spTake : Sp := fun vs H Q _ => ∃ (p : Addr) (n : Int), vs = [.ref p, .int n] ∧ BoxAt H p ∧ 0 < n ∧ n < 1000000 ∧ ∀ (d : Int) (H' : Hp), 0 ≤ d → d < n → Turned H H' p → Q (.int d) H'
/-- an item of the script -/
theorem at_script {ns : List Int} {k : Int} (h0 : 0 ≤ k) (h1 : k < ns.length) : ∃ z, atI (ns.map V.int) k = some (.int z) := by
  obtain ⟨j, rfl⟩ := Int.eq_ofNat_of_zero_le h0
  have hj : j < ns.length := by omega
  refine ⟨ns[j], atI_nat ?_⟩
  rw [List.getElem?_map, List.getElem?_eq_getElem hj]
  rfl
theorem mod_pos {i j : Int} (h : 0 < j) : 0 ≤ i % j ∧ i % j < j := ⟨Int.emod_nonneg _ (by omega), Int.emod_lt_of_pos _ h⟩
end Gd

namespace Gd
open PySem L2
theorem iteB {c : Bool} {A B : Prop} (h1 : c = true → A) (h2 : c = false → B) : if c = true then A else B := by
  cases c with
  | true => exact iteT (h1 rfl)
  | false => exact iteF (h2 rfl)
/-- what a comprehension over J asks, its list at D -/
def LcW (J : It) (g : TG) (tt : TT) (te : TE) (vs : List Nat) (σ : L2.St) (H1 : Hp) (D : Addr) (Qd : Hp → Prop) : Prop :=
  ∃ W : Nat → Nat → Hp → Prop, (∃ m, W 0 m (upd H1 D (.lst []))) ∧ ∀ i m H, W i m H →
    (J.stop i H ∧ Qd H) ∨ (J.go i H ∧ ∃ Nx : Hp → Prop, (∀ H', Nx H' → ∃ m', m' < m ∧ W (i + 1) m' H') ∧ ∀ x H', J.yld i H x H' →
      g x (wipe σ vs) H' fun σ2 H2 => wipe σ2 vs = wipe σ vs ∧ tt σ2 H2 fun b H3 => if b = true then te σ2 H3 fun y H4 => ∃ acc, H4 D = some (.lst acc) ∧ acc.length < sizeLine ∧ Nx (upd H4 D (.lst (acc ++ [y]))) else Nx H3)
theorem wipe1 (σ : L2.St) (j : Nat) (v : Option V) : wipe ((wipe σ [j]).set j v) [j] = wipe σ [j] := by
  show ((σ.set j none).set j v).set j none = σ.set j none
  rw [List.set_set, List.set_set]
theorem take_snoc {α : Type} {l : List α} {i : Nat} {x : α} (h : l[i]? = some x) : l.take (i + 1) = l.take i ++ [x] := by
  rw [List.take_succ, h]
  rfl
section
variable {K : PySem.W.Frag} {tt : TT} {te : TE} {j : Nat} {σ : L2.St} {H1 : Hp} {D : Addr} {Qd : Hp → Prop}
/-- over a text, all else as it stood -/
theorem lc_text {z : Str} (f : Nat → V) (p : Nat → Bool) (hz : z.length < sizeLine)
    (ht : ∀ c acc (Q : Bool → Hp → Prop), c ∈ z.cps.toList → Q (p c) (upd H1 D (.lst acc)) → tt ((wipe σ [j]).set j (some (.str ⟨#[c]⟩))) (upd H1 D (.lst acc)) Q)
    (he : ∀ c acc (Q : VK), c ∈ z.cps.toList → p c = true → Q (f c) (upd H1 D (.lst acc)) → te ((wipe σ [j]).set j (some (.str ⟨#[c]⟩))) (upd H1 D (.lst acc)) Q)
    (hd : Qd (upd H1 D (.lst ((z.cps.toList.filter p).map f)))) : LcW (Its z) (gName j) tt te [j] σ H1 D Qd := by
  have hl : z.cps.toList.length = z.cps.size := Array.length_toList
  refine lc_it walk_str (fun i H => H = upd H1 D (.lst (((z.cps.toList.take i).filter p).map f))) rfl (fun _ _ _ _ => trivial) ?_ ?_
  · rintro i x H H' hi e ⟨e', c, hc, rfl⟩
    subst e'
    have hc' : z.cps.toList[i]? = some c := by rw [Array.getElem?_toList]; exact hc
    have hm : c ∈ z.cps.toList := List.mem_of_getElem? hc'
    show gName j _ (wipe σ [j]) H' _
    refine ⟨wipe1 _ _ _, ?_⟩
    rw [e]
    refine ht c _ _ hm ?_
    have es := take_snoc hc'
    refine iteB (fun b => ?_) (fun b => ?_)
    · refine he c _ _ hm b ⟨_, upd_same, ?_, ?_⟩
      · rw [List.length_map]
        refine Nat.lt_of_le_of_lt (List.length_filter_le _ _) ?_
        rw [List.length_take]
        have : z.length = z.cps.size := rfl
        omega
      · rw [upd_upd, es, List.filter_append, List.map_append]
        have e1 : [c].filter p = [c] := by rw [List.filter_cons, if_pos b]; rfl
        rw [e1]
        rfl
    · rw [es, List.filter_append, List.map_append]
      have e1 : [c].filter p = [] := by rw [List.filter_cons, if_neg (by rw [b]; exact Bool.false_ne_true)]; rfl
      rw [e1]
      show upd H1 D _ = _
      rw [List.map_nil, List.append_nil]
  · intro H e
    subst e
    rw [← hl, List.take_length]
    exact hd
end
/-- order of single signs -/
theorem lt_sign (a b : Nat) : decide (([a] : List Nat) < [b]) = decide (a < b) := by
  by_cases h : a < b
  · rw [decide_eq_true h]
    exact decide_eq_true (List.Lex.rel h)
  · rw [decide_eq_false h]
    refine decide_eq_false fun z => ?_
    cases z with
    | rel h' => exact h h'
    | cons h' => cases h'
end Gd

namespace Gd
open PySem L2
/-! ### plain texts of a size -/
structure Tx (n : Nat) (x : Str) : Prop where
  len : x.length ≤ n
  asc : ∀ c ∈ x.cps.toList, c < 128
theorem len_list (x : Str) : x.length = x.cps.toList.length := (Array.length_toList).symm
theorem Tx.mono {n m : Nat} {x : Str} (t : Tx n x) (h : n ≤ m) : Tx m x := ⟨Nat.le_trans t.len h, t.asc⟩
theorem app_list (x y : Str) : (x ++ y).cps.toList = x.cps.toList ++ y.cps.toList := Array.toList_append
theorem Tx.app {n m : Nat} {x y : Str} (t : Tx n x) (u : Tx m y) : Tx (n + m) (x ++ y) := by
  refine ⟨?_, fun c hc => ?_⟩
  · have := t.len
    have := u.len
    rw [len_list, app_list, List.length_append, ← len_list, ← len_list]
    omega
  · rw [app_list] at hc
    rcases List.mem_append.mp hc with h | h
    · exact t.asc c h
    · exact u.asc c h
theorem cut_mem {z : Str} {lo hi : Option Int} {c : Nat} (h : c ∈ (cutS z lo hi).cps.toList) : c ∈ z.cps.toList := by
  have h' : c ∈ (z.cps.toList.drop (HT.sIx z.length 0 lo)).take (HT.sIx z.length z.length hi - HT.sIx z.length 0 lo) := h
  exact List.mem_of_mem_drop (List.mem_of_mem_take h')
theorem Tx.cut {n : Nat} {z : Str} (t : Tx n z) (lo hi : Option Int) : Tx n (cutS z lo hi) := ⟨Nat.le_trans (cutS_length z lo hi) t.len, fun c hc => t.asc c (cut_mem hc)⟩
theorem Tx.sign {n : Nat} {z : Str} (t : Tx n z) {c : Nat} (h : c ∈ z.cps.toList) : Tx 1 ⟨#[c]⟩ := ⟨Nat.le_refl _, fun d hd => by
  have : d = c := by simpa using hd
  rw [this]
  exact t.asc c h⟩
/-- a written one: by decide +kernel -/
theorem Tx.of {n : Nat} {x : Str} (h : (decide (x.length ≤ n) && x.cps.toList.all fun c => decide (c < 128)) = true) : Tx n x := by
  rw [Bool.and_eq_true, decide_eq_true_eq, List.all_eq_true] at h
  exact ⟨h.1, fun c hc => of_decide_eq_true (h.2 c hc)⟩
theorem Tx.big {n : Nat} {x : Str} (t : Tx n x) : ∀ c ∈ x.cps.toList, c < 16 ^ 8 := fun c hc => Nat.lt_trans (t.asc c hc) (by decide)
theorem atI_mem {α : Type} {l : List α} {i : Int} {v : α} (h : atI l i = some v) : v ∈ l := by
  unfold atI at h
  cases e : ixN l.length i with
  | none => rw [e] at h; exact nomatch h
  | some j =>
    rw [e] at h
    exact List.mem_of_getElem? h
/-- an item that all of them are like -/
theorem atI_all {α : Type} {l : List α} {p : α → Prop} (h : ∀ v ∈ l, p v) {d : Int} (h0 : 0 ≤ d) (h1 : d < l.length) : ∃ v, atI l d = some v ∧ p v := by
  obtain ⟨j, rfl⟩ := Int.eq_ofNat_of_zero_le h0
  have hj : j < l.length := by omega
  exact ⟨l[j], atI_nat (List.getElem?_eq_getElem hj), h _ (List.getElem_mem hj)⟩
/-- a sign of a text -/
theorem atI_sign {n : Nat} {z : Str} (t : Tx n z) {d : Int} (h0 : 0 ≤ d) (h1 : d < z.length) : ∃ c, atI z.cps.toList d = some c ∧ Tx 1 ⟨#[c]⟩ ∧ c ∈ z.cps.toList := by
  obtain ⟨c, h, hm⟩ := atI_all (l := z.cps.toList) (p := fun c => c ∈ z.cps.toList) (fun _ h => h) h0 (by rw [← len_list]; exact h1)
  exact ⟨c, h, t.sign hm, hm⟩
/-! ### parts and equality of texts -/
theorem str_ext {x y : Str} (h : x.cps.toList = y.cps.toList) : x = y := by
  obtain ⟨a⟩ := x
  obtain ⟨b⟩ := y
  exact congrArg Str.mk (Array.toList_inj.mp h)
theorem str_eq (x y : Str) : decide (V.str x = V.str y) = decide (x.cps.toList = y.cps.toList) :=
  decide_eq_decide.mpr ⟨fun z => by rw [V.str.injEq] at z; rw [z], fun z => by rw [str_ext z]⟩
theorem cut_take (x : Str) (k : Nat) : (cutS x none (some (k : Int))).cps.toList = x.cps.toList.take k := by
  show (x.cps.toList.drop (HT.sIx x.length 0 none)).take (HT.sIx x.length x.length (some (k : Int)) - HT.sIx x.length 0 none) = _
  rw [HT.sIx_none, HT.sIx_nat, List.drop_zero, Nat.sub_zero, len_list]
  rcases Nat.le_total k x.cps.toList.length with h | h
  · rw [Nat.min_eq_left h]
  · rw [Nat.min_eq_right h, List.take_length, List.take_of_length_le h]
theorem cut_drop (x : Str) (k : Nat) : (cutS x (some (k : Int)) none).cps.toList = x.cps.toList.drop k := by
  show (x.cps.toList.drop (HT.sIx x.length 0 (some (k : Int)))).take (HT.sIx x.length x.length none - HT.sIx x.length 0 (some (k : Int))) = _
  rw [HT.sIx_none, HT.sIx_nat, len_list]
  rcases Nat.le_total k x.cps.toList.length with h | h
  · rw [Nat.min_eq_left h, List.take_of_length_le (by rw [List.length_drop]; exact Nat.le_refl _)]
  · rw [Nat.min_eq_right h, Nat.sub_self, List.take_zero, List.drop_of_length_le h]
/-! ### joined -/
theorem join_str (sep : Str) (l : List Str) : Txt.join sep l = Str.join sep l := eq_of_beq (PyProof.Rows.join_plain_closes sep l)
theorem join_len (sep : Str) : ∀ l : List Str, (Str.join sep l).length ≤ (l.map (·.length)).sum + l.length * sep.length
  | [] => Nat.zero_le _
  | [x] => by
    show x.length ≤ _
    simp
  | x :: y :: r => by
    have ih := join_len sep (y :: r)
    show (x ++ sep ++ Str.join sep (y :: r)).length ≤ _
    rw [len_list, app_list, app_list, List.length_append, List.length_append, ← len_list, ← len_list, ← len_list, List.map_cons, List.sum_cons, List.length_cons, Nat.succ_mul]
    omega
theorem join_mem (sep : Str) {c : Nat} : ∀ {l : List Str}, c ∈ (Str.join sep l).cps.toList → c ∈ sep.cps.toList ∨ ∃ y ∈ l, c ∈ y.cps.toList
  | [], h => nomatch (show c ∈ ([] : List Nat) from h)
  | [x], h => .inr ⟨x, List.mem_cons_self, h⟩
  | x :: y :: r, h => by
    have h' : c ∈ (x ++ sep ++ Str.join sep (y :: r)).cps.toList := h
    rw [app_list, app_list, List.mem_append, List.mem_append] at h'
    rcases h' with (h | h) | h
    · exact .inr ⟨x, List.mem_cons_self, h⟩
    · exact .inl h
    · rcases join_mem sep h with h | ⟨z, hz, h⟩
      · exact .inl h
      · exact .inr ⟨z, List.mem_cons_of_mem _ hz, h⟩
theorem join_empty_len : ∀ l : List Str, (Str.join "" l).length = (l.map (·.length)).sum
  | [] => rfl
  | [x] => by
    show x.length = _
    simp
  | x :: y :: r => by
    have ih := join_empty_len (y :: r)
    show (x ++ "" ++ Str.join "" (y :: r)).length = _
    have e : (("" : String) : Str).cps.toList = [] := by decide +kernel
    rw [len_list, app_list, app_list, e, List.append_nil, List.length_append, ← len_list, ← len_list, List.map_cons, List.sum_cons, ih]
theorem sum_le {l : List Nat} {n : Nat} (h : ∀ x ∈ l, x ≤ n) : l.sum ≤ l.length * n := by
  induction l with
  | nil => exact Nat.zero_le _
  | cons a l ih =>
    have := ih fun x hx => h x (List.mem_cons_of_mem _ hx)
    have := h a List.mem_cons_self
    rw [List.sum_cons, List.length_cons, Nat.succ_mul]
    omega
theorem Tx.join {n m k : Nat} {sep : Str} {l : List Str} (s : Tx m sep) (h : ∀ y ∈ l, Tx n y) (hl : l.length ≤ k) : Tx (k * n + k * m) (Txt.join sep l) := by
  rw [join_str]
  refine ⟨?_, fun c hc => ?_⟩
  · have h1 := join_len sep l
    have h2 : (l.map (·.length)).sum ≤ l.length * n := by
      have := sum_le (l := l.map (·.length)) (n := n) fun x hx => by
        obtain ⟨y, hy, rfl⟩ := List.mem_map.mp hx
        exact (h y hy).len
      rw [List.length_map] at this
      exact this
    have h3 : l.length * n ≤ k * n := Nat.mul_le_mul_right _ hl
    have h4 : l.length * sep.length ≤ k * m := Nat.mul_le_mul hl s.len
    omega
  · rcases join_mem sep hc with h' | ⟨y, hy, h'⟩
    · exact s.asc c h'
    · exact (h y hy).asc c h'
/-! ### all but the pool is kept -/
def Kept (H H' : Hp) (p : Addr) : Prop := BoxAt H' p ∧ ∀ q o, q ≠ p → H q = some o → H' q = some o
theorem Kept.refl {H : Hp} {p : Addr} (b : BoxAt H p) : Kept H H p := ⟨b, fun _ _ _ h => h⟩
theorem Kept.trans {H H1 H2 : Hp} {p : Addr} (a : Kept H H1 p) (b : Kept H1 H2 p) : Kept H H2 p := ⟨b.1, fun q o hq h => b.2 q o hq (a.2 q o hq h)⟩
theorem Kept.box {H H' : Hp} {p : Addr} (k : Kept H H' p) : BoxAt H' p := k.1
theorem Turned.kept {H H' : Hp} {p : Addr} (t : Turned H H' p) : Kept H H' p := ⟨t.1, fun q o hq h => t.at hq h⟩
theorem Kept.new {H H' : Hp} {p l : Addr} {o : HO} (k : Kept H H' p) (h : H' l = none) : Kept H (upd H' l o) p :=
  ⟨k.1.upd h, fun q u hq hu => by rw [upd_ne (ne_of_none (k.2 q u hq hu) h)]; exact k.2 q u hq hu⟩
theorem Kept.turn {H H1 H2 : Hp} {p : Addr} (k : Kept H H1 p) (t : Turned H1 H2 p) : Kept H H2 p := k.trans t.kept
theorem Kept.same {H H1 H2 : Hp} {p : Addr} (k : Kept H H1 p) (s : Same H1 H2) : Kept H H2 p := by
  obtain ⟨⟨a, b, c, h, r⟩, f⟩ := k
  exact ⟨⟨a, b, c, s _ _ h, r⟩, fun q o hq hh => s _ _ (f q o hq hh)⟩
/-- fresh behind is fresh ahead -/
theorem Kept.free {H H' : Hp} {p q : Addr} (k : Kept H H' p) (hb : BoxAt H p) (h : H' q = none) : H q = none := by
  cases e : H q with
  | none => rfl
  | some o =>
    by_cases hq : q = p
    · subst hq
      obtain ⟨_, hh⟩ := k.1.some
      rw [hh] at h
      exact nomatch h
    · rw [k.2 q o hq e] at h
      exact nomatch h
theorem Kept.ne {H : Hp} {p q : Addr} (b : BoxAt H p) (h : H q = none) : q ≠ p := by
  rintro rfl
  obtain ⟨_, hh⟩ := b.some
  rw [hh] at h
  exact nomatch h
theorem Kept.put {H H' : Hp} {p D : Addr} {o : HO} (k : Kept H H' p) (hb : BoxAt H p) (h : H D = none) : Kept H (upd H' D o) p := by
  have hne : D ≠ p := Kept.ne hb h
  obtain ⟨⟨a, b, c, hh, r⟩, f⟩ := k
  exact ⟨⟨a, b, c, by rw [upd_ne hne.symm]; exact hh, r⟩, fun q u hq hu => by rw [upd_ne (ne_of_none hu h)]; exact f q u hq hu⟩
/-- no test: the turn gives -/
theorem yes_go {σ : L2.St} {H : Hp} {A B : Hp → Prop} (h : A H) : tYes σ H (fun b H' => if b = true then A H' else B H') := by
  show if true = true then A H else B H
  exact iteT h
/-! a word between a statement and what follows -/
def tMid (t u : TS) : TS := fun D σ H => ∃ M : L2.St → Hp → Prop, t { D with nx := M } σ H ∧ ∀ σ' H', M σ' H' → u D σ' H'
theorem pss_mid {X : Cx} {st : Stmt} {rest : List Stmt} {t u : TS} (h1 : PS X st t) (h2 : PSs X rest u) : PSs X (st :: rest) (tMid t u) := by
  refine ⟨fun pins s σ H D I ⟨M, hm, hu⟩ => ?_⟩
  refine wpAny_execs_cons (thn (h1.run pins s σ H { D with nx := M } I hm) fun f s1 q => ?_)
  match f, q with
  | .next, ⟨σ', H', I', q⟩ => exact h2.run pins s1 σ' H' D I' (hu σ' H' q)
  | .ret _, q => exact q
  | .brk, q => exact q
  | .cont, q => exact q
end Gd

namespace K3
open PySem L2 Gd
/-! ### a line cut at its spaces -/
/-- the words that are whole, and the open one -/
def stp (s : List (List Nat) × List Nat) (c : Nat) : List (List Nat) × List Nat := if c = 32 then (s.1 ++ [s.2], []) else (s.1, s.2 ++ [c])
def cutF (l : List Nat) : List (List Nat) × List Nat := l.foldl stp ([], [])
def pcs (l : List Nat) : List (List Nat) := (cutF l).1 ++ [(cutF l).2]
def mk (l : List Nat) : Str := ⟨l.toArray⟩
def wds (x : Str) : List Str := (pcs x.cps.toList).map mk
theorem cut_snoc (l : List Nat) (c : Nat) : cutF (l ++ [c]) = stp (cutF l) c := by
  unfold cutF
  rw [List.foldl_append]
  rfl
theorem joinL_snoc (S : List Nat) : ∀ (d : List (List Nat)) (p : List Nat), TL.joinL S (d ++ [p]) = (d.map fun x => x ++ S).flatten ++ p
  | [], p => rfl
  | [a], p => by
    show a ++ (S ++ p) = (a ++ S ++ []) ++ p
    simp
  | a :: b :: d, p => by
    have ih := joinL_snoc S (b :: d) p
    show a ++ (S ++ TL.joinL S (b :: (d ++ [p]))) = _
    rw [show b :: (d ++ [p]) = (b :: d) ++ [p] from rfl, ih]
    simp
theorem snoc_ind {P : List Nat → Prop} (h0 : P []) (h1 : ∀ l c, P l → P (l ++ [c])) : ∀ l, P l := fun l => by
  have : P l.reverse.reverse := by
    induction l.reverse with
    | nil => exact h0
    | cons c r ih =>
      rw [List.reverse_cons]
      exact h1 _ _ ih
  rw [List.reverse_reverse] at this
  exact this
theorem joined (l : List Nat) : ((cutF l).1.map fun x => x ++ [32]).flatten ++ (cutF l).2 = l := by
  refine snoc_ind (P := fun l => ((cutF l).1.map fun x => x ++ [32]).flatten ++ (cutF l).2 = l) rfl (fun l c ih => ?_) l
  rw [cut_snoc]
  unfold stp
  by_cases e : c = 32
  · rw [if_pos e, e]
    show (((cutF l).1 ++ [(cutF l).2]).map fun x => x ++ [32]).flatten ++ [] = l ++ [32]
    rw [List.map_append, List.flatten_append, List.append_nil]
    show _ ++ ((cutF l).2 ++ [32] ++ []) = _
    rw [List.append_nil, ← List.append_assoc, ih]
  · rw [if_neg e]
    show _ ++ ((cutF l).2 ++ [c]) = _
    rw [← List.append_assoc, ih]
theorem no_space (l : List Nat) : ∀ p ∈ pcs l, 32 ∉ p := by
  refine snoc_ind (P := fun l => ∀ p ∈ pcs l, 32 ∉ p) (fun p hp => ?_) (fun l c ih p hp => ?_) l
  · have : p = [] := by simpa [pcs, cutF] using hp
    rw [this]
    exact List.not_mem_nil
  · unfold pcs at hp ih
    rw [cut_snoc] at hp
    unfold stp at hp
    by_cases e : c = 32
    · rw [if_pos e] at hp
      rcases List.mem_append.mp hp with h | h
      · exact ih p h
      · have : p = [] := by simpa using h
        rw [this]
        exact List.not_mem_nil
    · rw [if_neg e] at hp
      rcases List.mem_append.mp hp with h | h
      · exact ih p (List.mem_append_left _ h)
      · have : p = (cutF l).2 ++ [c] := by simpa using h
        rw [this]
        intro z
        rcases List.mem_append.mp z with z | z
        · exact ih _ (List.mem_append_right _ (List.mem_singleton.mpr rfl)) z
        · exact e (List.mem_singleton.mp z).symm
theorem split_all (x : Str) : Txt.split x " " = wds x := by
  have hx : Txt.join " " (wds x) = x := by
    apply TL.ext_tl
    rw [TL.join_eq, TL.tl_join]
    have e1 : (wds x).map TL.tl = pcs x.cps.toList := by
      unfold wds
      rw [List.map_map]
      exact (List.map_congr_left fun p _ => rfl).trans (List.map_id _)
    rw [e1]
    unfold pcs
    rw [joinL_snoc]
    exact joined _
  have h := TL.split_join (y := " ") (s := 32) (S := []) (by decide +kernel) (by decide +kernel) (parts := wds x) (by unfold wds pcs; simp) fun p hp => by
    obtain ⟨q, hq, rfl⟩ := List.mem_map.mp hp
    exact no_space _ q hq
  rw [hx] at h
  exact h
theorem wds_len (x : Str) : (pcs x.cps.toList).length ≤ x.length + 1 := by
  rw [len_list]
  refine snoc_ind (P := fun l => (pcs l).length ≤ l.length + 1) (by decide) (fun l c ih => ?_) x.cps.toList
  unfold pcs at ih ⊢
  rw [cut_snoc, List.length_append, List.length_append] at *
  unfold stp
  by_cases e : c = 32
  · rw [if_pos e]
    show ((cutF l).1 ++ [(cutF l).2]).length + 1 ≤ l.length + 1 + 1
    rw [List.length_append]
    omega
  · rw [if_neg e]
    show (cutF l).1.length + 1 ≤ l.length + 1 + 1
    simp at ih
    omega
theorem pcs_tx {n : Nat} {x : Str} (t : Tx n x) : ∀ w ∈ wds x, Tx n w := by
  intro w hw
  obtain ⟨p, hp, rfl⟩ := List.mem_map.mp hw
  have sub : ∀ l : List Nat, ∀ p ∈ pcs l, p.length ≤ l.length ∧ ∀ c ∈ p, c ∈ l := fun l => by
    refine snoc_ind (P := fun l => ∀ p ∈ pcs l, p.length ≤ l.length ∧ ∀ c ∈ p, c ∈ l) (fun p hp => ?_) (fun l c ih p hp => ?_) l
    · have : p = [] := by simpa [pcs, cutF] using hp
      rw [this]
      exact ⟨Nat.le_refl _, fun c h => h⟩
    · have up : ∀ q : List Nat, (q.length ≤ l.length ∧ ∀ c ∈ q, c ∈ l) → q.length ≤ (l ++ [c]).length ∧ ∀ d ∈ q, d ∈ l ++ [c] := fun q h => ⟨by rw [List.length_append]; omega, fun d hd => List.mem_append_left _ (h.2 d hd)⟩
      unfold pcs at hp ih
      rw [cut_snoc] at hp
      unfold stp at hp
      by_cases e : c = 32
      · rw [if_pos e] at hp
        rcases List.mem_append.mp hp with h | h
        · exact up p (ih p h)
        · have : p = [] := by simpa using h
          rw [this]
          exact ⟨Nat.zero_le _, fun c h => nomatch h⟩
      · rw [if_neg e] at hp
        rcases List.mem_append.mp hp with h | h
        · exact up p (ih p (List.mem_append_left _ h))
        · have h2 : p = (cutF l).2 ++ [c] := by simpa using h
          have h3 := ih _ (List.mem_append_right _ (List.mem_singleton.mpr rfl))
          rw [h2]
          refine ⟨by rw [List.length_append, List.length_append]; simp; exact h3.1, fun d hd => ?_⟩
          rcases List.mem_append.mp hd with hd | hd
          · exact List.mem_append_left _ (h3.2 d hd)
          · exact List.mem_append_right _ hd
  obtain ⟨h1, h2⟩ := sub _ p hp
  refine ⟨?_, fun c hc => t.asc c (h2 c hc)⟩
  rw [len_list]
  exact Nat.le_trans h1 (by rw [← len_list]; exact t.len)
theorem pcs_sum (l : List Nat) : ((pcs l).map List.length).sum ≤ l.length := by
  refine snoc_ind (P := fun l => ((pcs l).map List.length).sum ≤ l.length) (by decide) (fun l c ih => ?_) l
  unfold pcs at ih ⊢
  rw [List.map_append, List.sum_append] at ih
  rw [cut_snoc, List.length_append]
  unfold stp
  have i2 : ((cutF l).1.map List.length).sum + ((cutF l).2.length + 0) ≤ l.length := ih
  split
  · rw [List.map_append, List.map_append, List.sum_append, List.sum_append]
    show ((cutF l).1.map List.length).sum + ((cutF l).2.length + 0) + (0 + 0) ≤ l.length + 1
    omega
  · rw [List.map_append, List.sum_append]
    show ((cutF l).1.map List.length).sum + (((cutF l).2 ++ [c]).length + 0) ≤ l.length + 1
    rw [List.length_append]
    show ((cutF l).1.map List.length).sum + ((cutF l).2.length + 1 + 0) ≤ l.length + 1
    omega
theorem wds_sum (x : Str) : ((wds x).map (·.length)).sum ≤ x.length := by
  have e : (wds x).map (·.length) = (pcs x.cps.toList).map List.length := by
    unfold wds
    rw [List.map_map]
    exact List.map_congr_left fun p _ => by
      show (mk p).length = p.length
      rw [len_list]
      rfl
  rw [e, len_list]
  exact pcs_sum _
/-! ### what is due -/
def dueT (x : Str) : Option (List Str) := if x.cps.toList = [] then some [] else if 10 ∈ x.cps.toList ∨ [] ∈ pcs x.cps.toList then none else some (wds x)
def dueV : V → Option (List Str)
  | .str x => dueT x
  | _ => none
theorem due_is {x : Str} {ws : List Str} (h : dueT x = some ws) : ws = [] ∨ ws = wds x := by
  unfold dueT at h
  split at h
  · exact .inl (Option.some.inj h).symm
  · split at h
    · exact nomatch h
    · exact .inr (Option.some.inj h).symm
/-- how far the walk is: the words, and whether the last sign was a space (or nothing) -/
structure Walk (p : List Nat) (ws : List Str) (c : Nat) : Prop where
  n10 : 10 ∉ p
  nE : [] ∉ (cutF p).1
  sp : c = 32 ↔ (cutF p).2 = []
  ws : ws = (if (cutF p).2 = [] then (cutF p).1 else pcs p).map mk
theorem walk0 : Walk [] [] 32 := ⟨List.not_mem_nil, List.not_mem_nil, ⟨fun _ => rfl, fun _ => rfl⟩, rfl⟩
theorem walk_space {p : List Nat} {ws : List Str} {c : Nat} (h : Walk p ws c) (hc : c ≠ 32) : Walk (p ++ [32]) ws 32 := by
  have n2 : (cutF p).2 ≠ [] := fun z => hc (h.sp.mpr z)
  have e : cutF (p ++ [32]) = ((cutF p).1 ++ [(cutF p).2], []) := by rw [cut_snoc]; rfl
  refine ⟨fun z => ?_, fun z => ?_, ?_, ?_⟩
  · rcases List.mem_append.mp z with z | z
    · exact h.n10 z
    · exact absurd z (by decide)
  · rw [e] at z
    rcases List.mem_append.mp z with z | z
    · exact h.nE z
    · exact n2 (List.mem_singleton.mp z).symm
  · rw [e]
    exact ⟨fun _ => rfl, fun _ => rfl⟩
  · rw [e, h.ws, if_neg n2]
    rfl
theorem walk_first {p : List Nat} {ws : List Str} {c d : Nat} (h : Walk p ws c) (hc : c = 32) (hd : d ≠ 32) (hd10 : d ≠ 10) : Walk (p ++ [d]) (ws ++ [mk [d]]) d := by
  have n2 : (cutF p).2 = [] := h.sp.mp hc
  have e : cutF (p ++ [d]) = ((cutF p).1, [d]) := by rw [cut_snoc]; unfold stp; rw [if_neg hd, n2]; rfl
  refine ⟨fun z => ?_, fun z => ?_, ?_, ?_⟩
  · rcases List.mem_append.mp z with z | z
    · exact h.n10 z
    · exact hd10 (List.mem_singleton.mp z).symm
  · rw [e] at z
    exact h.nE z
  · rw [e]
    exact ⟨fun z => absurd z hd, fun z => nomatch z⟩
  · unfold pcs
    rw [e, h.ws, if_pos n2, if_neg (by intro z; exact nomatch z)]
    rw [List.map_append]
    rfl
theorem open_len (p : List Nat) : (cutF p).2.length ≤ p.length := by
  refine snoc_ind (P := fun p => (cutF p).2.length ≤ p.length) (Nat.le_refl _) (fun l c ih => ?_) p
  rw [cut_snoc, List.length_append]
  unfold stp
  split
  · exact Nat.zero_le _
  · show ((cutF l).2 ++ [c]).length ≤ _
    rw [List.length_append]
    exact Nat.add_le_add_right ih _
theorem walk_more {p : List Nat} {ws : List Str} {c d : Nat} (h : Walk p ws c) (hc : c ≠ 32) (hd : d ≠ 32) (hd10 : d ≠ 10) :
    ∃ us w, ws = us ++ [w] ∧ w.length ≤ p.length ∧ Walk (p ++ [d]) (us ++ [w ++ mk [d]]) d := by
  have n2 : (cutF p).2 ≠ [] := fun z => hc (h.sp.mpr z)
  have e : cutF (p ++ [d]) = ((cutF p).1, (cutF p).2 ++ [d]) := by rw [cut_snoc]; unfold stp; rw [if_neg hd]
  refine ⟨(cutF p).1.map mk, mk (cutF p).2, ?_, by rw [len_list]; exact open_len p, fun z => ?_, fun z => ?_, ?_, ?_⟩
  · rw [h.ws, if_neg n2]
    unfold pcs
    rw [List.map_append]
    rfl
  · rcases List.mem_append.mp z with z | z
    · exact h.n10 z
    · exact hd10 (List.mem_singleton.mp z).symm
  · rw [e] at z
    exact h.nE z
  · rw [e]
    refine ⟨fun z => absurd z hd, fun z => ?_⟩
    have z : (cutF p).2 ++ [d] = [] := z
    simp at z
  · unfold pcs
    rw [e, if_neg (by show ¬ (cutF p).2 ++ [d] = []; simp), List.map_append]
    congr 1
    show [mk (cutF p).2 ++ mk [d]] = [mk ((cutF p).2 ++ [d])]
    refine congrArg (fun z => [z]) (str_ext ?_)
    rw [app_list]
    rfl
theorem cut_pre : ∀ (r p : List Nat), ∀ w ∈ (cutF p).1, w ∈ (cutF (p ++ r)).1
  | [], p, w, h => by rw [List.append_nil]; exact h
  | c :: r, p, w, h => by
    have := cut_pre r (p ++ [c]) w (by
      rw [cut_snoc]
      unfold stp
      split
      · exact List.mem_append_left _ h
      · exact h)
    rw [List.append_assoc] at this
    exact this
/-- two spaces, or one ahead -/
theorem due_space {x : Str} {p r : List Nat} {ws : List Str} {c : Nat} (e : x.cps.toList = p ++ 32 :: r) (h : Walk p ws c) (hc : c = 32) : dueT x = none := by
  have n2 : (cutF p).2 = [] := h.sp.mp hc
  have m : [] ∈ (cutF (p ++ [32])).1 := by
    rw [cut_snoc]
    show [] ∈ (cutF p).1 ++ [(cutF p).2]
    rw [n2]
    exact List.mem_append_right _ (List.mem_singleton.mpr rfl)
  have m2 := cut_pre r _ _ m
  rw [List.append_assoc] at m2
  unfold dueT
  rw [e, if_neg (by simp), if_pos (.inr (List.mem_append_left _ m2))]
theorem due_feed {x : Str} {p r : List Nat} (e : x.cps.toList = p ++ 10 :: r) : dueT x = none := by
  unfold dueT
  rw [e, if_neg (by simp), if_pos (.inl (List.mem_append_right _ List.mem_cons_self))]
theorem due_end {x : Str} {ws : List Str} {c : Nat} (h : Walk x.cps.toList ws c) : dueT x = if x.cps.toList ≠ [] ∧ c = 32 then none else some ws := by
  unfold dueT
  by_cases e : x.cps.toList = []
  · rw [if_pos e, if_neg (fun z => z.1 e), h.ws, e]
    rfl
  · rw [if_neg e]
    by_cases hc : c = 32
    · have n2 := h.sp.mp hc
      rw [if_pos (.inr (List.mem_append_right _ (by rw [n2]; exact List.mem_singleton.mpr rfl))), if_pos ⟨e, hc⟩]
    · have n2 : (cutF x.cps.toList).2 ≠ [] := fun z => hc (h.sp.mpr z)
      rw [if_neg (fun z => z.elim h.n10 fun z => (List.mem_append.mp z).elim h.nE fun z => n2 (List.mem_singleton.mp z).symm), if_neg (fun z => hc z.2), h.ws, if_neg n2]
      rfl
/-! ### replaced spaces -/
theorem repl_tx {n m : Nat} {x z : Str} (t : Tx n x) (u : Tx m z) : Tx (n * (m + 1)) (Txt.replace x " " z) := by
  have e : (Txt.replace x " " z).cps.toList = StrLaws.replL [32] z.cps.toList x.cps.toList := StrLaws.replace_list (by decide +kernel)
  have all : ∀ l : List Nat, (StrLaws.replL [32] z.cps.toList l).length ≤ l.length * (m + 1) ∧ ∀ c ∈ StrLaws.replL [32] z.cps.toList l, c ∈ l ∨ c ∈ z.cps.toList := fun l => by
    induction l with
    | nil =>
      rw [StrLaws.replL_nil]
      exact ⟨Nat.zero_le _, fun c h => nomatch h⟩
    | cons d r ih =>
      have hm := u.len
      rw [len_list] at hm
      have e2 : (d :: r).length * (m + 1) = r.length * (m + 1) + (m + 1) := by rw [List.length_cons, Nat.succ_mul]
      by_cases h : d = 32
      · rw [StrLaws.replL_hit (by decide) (by rw [h]; rfl)]
        show (z.cps.toList ++ StrLaws.replL [32] z.cps.toList r).length ≤ _ ∧ _
        rw [e2, List.length_append]
        refine ⟨by omega, fun c hc => ?_⟩
        rcases List.mem_append.mp hc with hc | hc
        · exact .inr hc
        · exact (ih.2 c hc).imp (fun z => List.mem_cons_of_mem _ z) id
      · rw [StrLaws.replL_miss (by intro q; exact h (by simpa using q))]
        rw [e2, List.length_cons]
        refine ⟨by omega, fun c hc => ?_⟩
        rcases List.mem_cons.mp hc with hc | hc
        · exact .inl (by rw [hc]; exact List.mem_cons_self)
        · exact (ih.2 c hc).imp (fun z => List.mem_cons_of_mem _ z) id
  obtain ⟨h1, h2⟩ := all x.cps.toList
  refine ⟨?_, fun c hc => ?_⟩
  · rw [len_list, e]
    have := t.len
    rw [len_list] at this
    exact Nat.le_trans h1 (Nat.mul_le_mul_right _ this)
  · rw [e] at hc
    exact (h2 c hc).elim (t.asc c) (u.asc c)
end K3

/-! own rules: behind a written text a token is out -/
namespace Gd
open PySem PySem.Spec PyProof.Rows L2
variable {X : Cx}
def Po (X : Cx) (e : Expr) (t : TE) : Prop := ∀ (pins : List (Addr × Obj)) (s : Shared) (σ : L2.St) (H : Hp) (Q : VK), Inv X pins σ H s → t σ H Q → wpAny (model X.prog X.w) X.A (eval e X.env) (fun v z => 1 ≤ z.toks ∧ EP X pins σ Q v z) X.xe s
def PoA (X : Cx) (es : List Expr) (t : TA) : Prop := ∀ (pos : Pos) (pins : List (Addr × Obj)) (s : Shared) (σ : L2.St) (H : Hp) (Q : List V → Hp → Prop), Inv X pins σ H s → t σ H Q → wpAny (model X.prog X.w) X.A (spliced (backTo pos (starEach es X.env))) (fun v z => 1 ≤ z.toks ∧ AP X pins σ Q v z) X.xe s
theorem po_str {c : Str} {j : Nat} {pos : Pos} : Po X (.Constant (.str c) j pos) (tC (.str c)) := fun pins s σ H Q I h =>
  Calls.Constant_str ⟨by show 1 ≤ s.toks + 1; omega, .str c, H, I.tok _, ⟨s.toks, rfl⟩, h⟩
theorem poa_now {e : Expr} {es : List Expr} {te : TE} {t : TA} (a : Po X e te) (b : PA X es t) (hs : starEach (e :: es) X.env = (false, eval e X.env) :: starEach es X.env := by rfl) : PoA X (e :: es) (tCons te t) := by
  intro pos pins s σ H Q I h
  rw [hs]
  show wpAny _ X.A (spliced ((false, eval e X.env) :: backTo pos (starEach es X.env))) _ _ s
  apply Calls.spliced_cons
  refine thn (a pins s σ H _ I h) fun u z q => ?_
  obtain ⟨hz, x, H1, I1, r1, q1⟩ := q
  refine thn (wpAny_mono (PySem.wpAny_toks (b.run pos pins z σ H1 _ I1 q1)) (fun _ _ k => k) fun _ _ k => k.2) fun us y k => ?_
  obtain ⟨hy, xs, H2, I2, r2, q2⟩ := k
  exact ⟨Nat.le_trans hz hy, x :: xs, H2, I2, .cons r1 r2, q2⟩
theorem poa_late {e : Expr} {es : List Expr} {te : TE} {t : TA} (a : PE X e te) (b : PoA X es t) (hs : starEach (e :: es) X.env = (false, eval e X.env) :: starEach es X.env := by rfl) : PoA X (e :: es) (tCons te t) := by
  intro pos pins s σ H Q I h
  rw [hs]
  show wpAny _ X.A (spliced ((false, eval e X.env) :: backTo pos (starEach es X.env))) _ _ s
  apply Calls.spliced_cons
  refine thn (a.run pins s σ H _ I h) fun u z q => ?_
  obtain ⟨x, H1, I1, r1, q1⟩ := q
  refine thn (b pos pins z σ H1 _ I1 q1) fun us y k => ?_
  obtain ⟨hy, xs, H2, I2, r2, q2⟩ := k
  exact ⟨hy, x :: xs, H2, I2, .cons r1 r2, q2⟩
theorem po_tup {es : List Expr} {t : TA} {x1} {pos : Pos} (a : PoA X es t) : Po X (.Tuple es x1 pos) (tTup t) := by
  intro pins s σ H Q I h
  apply wpAny_Tuple_spliced
  refine thn (a pos pins s σ H _ I h) fun us z q => ?_
  obtain ⟨hz, xs, H1, I1, r, few, q⟩ := q
  have none1 : H1 z.heap.objs.size = none := I1.hok.fresh (Nat.le_refl _)
  refine ⟨by rw [← r.length]; exact few, hz, .ref z.heap.objs.size, upd H1 z.heap.objs.size (.tup xs), I1.laid (t' := z.toks) (o := .tup xs) (fun c o e => Heap.get?_push_of_some _ e) (Nat.le_refl _) ?_, rfl, q _ none1⟩
  exact ⟨few, us, r, _, Heap.get?_push_size _ rfl, rfl, _, rfl⟩
theorem pss_out {tg e : Expr} {te : TE} {g : TG} {rest : List Stmt} {u : TS} {pos : Pos} (a : Po X e te) (b : PG X tg g) (c : PSsT X rest u) (hs : swapsWithSole [tg] e pos.line X.env = pure false := by rfl) (hw : swappedStores [tg] e X.env = pure none := by rfl)
    (h1 : (assignEach [tg] X.env).map (·.2) = [assign tg X.env] := by rfl) : PSs X (.Assign [tg] e pos :: rest) (tSeq (tAsg te g) u) := by
  refine ⟨fun pins s σ H D I h => ?_⟩
  apply wpAny_execs_cons
  refine wpAny_Assign_stores (thn (a pins s σ H _ I h) fun v z q => ?_) hs hw
  obtain ⟨hz, x, H1, I1, r1, q1⟩ := q
  rw [h1]
  refine thn (wpAny_mono (PySem.wpAny_toks (b.run pins z σ H1 x v _ I1 r1 q1)) (fun _ _ k => k) fun _ _ k => k.2) fun _ y k => ?_
  obtain ⟨hy, σ2, H2, I2, q2⟩ := k
  exact c pins y σ2 H2 D (Nat.le_trans hz hy) I2 q2
theorem pst_set {i : Nat} {x : Str} {e : Expr} {te : TE} {pos pos' : Pos} (hN : X.N.Nodup) (hi : X.N[i]? = some x) (hx : Loc X.env.scope x) (a : PET X e te) (hs : swapsWith e (some (.Name x pos')) pos.line X.env = pure false := by rfl) (hf : X.fn x = true ∨ X.env.scope.names.lookup x = some .local := by first | exact .inl rfl | exact .inr rfl | assumption) :
    PST X (.Assign [.Name x pos'] e pos) (tAsg te (gName i)) := by
  intro pins s σ H D h0 I h
  refine wpAny_Assign_Name (thn (a pins s σ H _ h0 I h) fun v z q => ?_) hs
  obtain ⟨y, H1, I1, r1, q1⟩ := q
  exact store_ok I1 hN hi hx r1 (fun _ I2 => ⟨_, H1, I2, q1⟩) hf
theorem pet_d {CX : CXT} {k : Nat} {x : Str} {f : Addr} {fd : FuncData} {ps : List Str} {sp : Sp} {E : L2.St → XK} {e : Expr} {es : List Expr} {t : TA} {p pos : Pos} (D : Df X.prog X.w X.K X.mg X.base CX k x f fd ps sp) (hc : Clean X.A) (hr : Room k X.A) (hg : Gl X x) (hx : ∀ σ, PassesAt CX X σ (E σ)) (ha : PAT X (e :: es) t) (hdb : (x == ("__debug__" : Str)) = false := by decide)
    (he : starEach (e :: es) X.env = (false, eval e X.env) :: starEach es X.env := by rfl) (hpl : (backTo pos (starEach es X.env)).any (·.1) = false := by rfl) : PET X (.Call (.Name x p) (e :: es) [] pos) (tCallG sp [] E t) := by
  intro pins s σ H Q h0 I h
  refine wpAny_Call_Name_kw (ld_glob I hg D.m ?_ hdb)
  refine PySem.W.callWith_K (h₀ := X.base) I.ok.mod.kin D.kp (thn (ha pos pins s σ H _ h0 I h) fun us z q => ?_) he hpl
  obtain ⟨vs, H1, I1, r, q⟩ := q
  exact ⟨I1.kIn, runC D.G hc hr D.b .nil (hx σ) I1 r q⟩
end Gd

/-! own rules: a local text's token is remembered over what does not store it; text.replace(written, local) -/
namespace Gd
open PySem PySem.Spec PyProof.Rows L2
theorem ns_uniq {h : Heap} {a : Addr} {m m' : Str → Option Value} (p : h.Ns a m) (q : h.Ns a m') (x : Str) : m x = m' x := by
  obtain ⟨o, es, ep, e1, e2, _, e3⟩ := p
  obtain ⟨o', es', ep', f1, f2, _, f3⟩ := q
  rw [e1] at f1
  cases f1
  rw [e2] at f2
  cases f2
  exact (e3 x).symm.trans (f3 x)
section
variable {X : Cx}
/-- the frame's names hold what they held -/
def Kp (X : Cx) (s s' : Shared) : Prop := ∀ m, s.heap.Ns X.env.locals m → s'.heap.Ns X.env.locals m
/-- the text under a name bears a token that is out -/
def Tkn (X : Cx) (y : Str) (s : Shared) : Prop := ∃ m t z, s.heap.Ns X.env.locals m ∧ m y = some (.str z t) ∧ t ≠ 0 ∧ t < s.toks
theorem Kp.rfl {s : Shared} : Kp X s s := fun _ h => h
theorem Kp.trans {s s1 s2 : Shared} (a : Kp X s s1) (b : Kp X s1 s2) : Kp X s s2 := fun m h => b m (a m h)
theorem Kp.tok {s : Shared} {k : Nat} : Kp X s { s with toks := k } := fun _ h => h
theorem Tkn.keep {y : Str} {s s' : Shared} (h : Tkn X y s) (k : Kp X s s') (l : s.toks ≤ s'.toks) : Tkn X y s' := by
  obtain ⟨m, t, z, a, b, c, d⟩ := h
  exact ⟨m, t, z, k m a, b, c, Nat.lt_of_lt_of_le d l⟩
theorem push_kp {s : Shared} {o : Obj} {k : Nat} : Kp X s { s with heap := s.heap.push o, toks := k } := fun _ h => h.push o
theorem call_kp {pins : List (Addr × Obj)} {σ : L2.St} {H : Hp} {s s' : Shared} {Q : VK} {u : Value} (I : Inv X pins σ H s) (h : CE X.stack X.prog X.w H s Q u s') : Kp X s s' := by
  obtain ⟨v, H', os, bare, un, hok, r, q⟩ := h
  intro m hn
  obtain ⟨o, es, ep, ho, hr⟩ := hn
  obtain ⟨sl, hL⟩ := un.any ho I.free (fun z => nomatch z)
  exact ⟨_, es, ep, hL, hr⟩
/-- .. and the frame keeps its names -/
structure PQ (X : Cx) (e : Expr) (t : TE) : Prop where
  run : ∀ (pins : List (Addr × Obj)) (s : Shared) (σ : L2.St) (H : Hp) (Q : VK), Inv X pins σ H s → t σ H Q → wpAny (model X.prog X.w) X.A (eval e X.env) (fun v z => Kp X s z ∧ EP X pins σ Q v z) X.xe s
structure PQA (X : Cx) (es : List Expr) (t : TA) : Prop where
  run : ∀ (pos : Pos) (pins : List (Addr × Obj)) (s : Shared) (σ : L2.St) (H : Hp) (Q : List V → Hp → Prop), Inv X pins σ H s → t σ H Q → wpAny (model X.prog X.w) X.A (spliced (backTo pos (starEach es X.env))) (fun v z => Kp X s z ∧ AP X pins σ Q v z) X.xe s
variable {e f : Expr} {es : List Expr} {te tf : TE} {t : TA} {pos p p' : Pos}
theorem PQ.pe (h : PQ X e te) : PE X e te := ⟨fun pins s σ H Q I q => thn (h.run pins s σ H Q I q) fun _ _ z => z.2⟩
theorem pq_var {i : Nat} {x : Str} (hN : X.N[i]? = some x) (hk : X.env.kindOf x = some .local) (hd : (x == ("__debug__" : Str)) = false := by decide) : PQ X (.Name x pos) (tVar i) := by
  refine ⟨fun pins s σ H Q I h => ?_⟩
  obtain ⟨v, e, h⟩ := h
  obtain ⟨m, hn, hl⟩ := I.loc
  obtain ⟨u, r, l⟩ := hl i x v hN e (.inl hk)
  rcases l with ⟨_, hm⟩ | ⟨hk', _⟩
  · exact wpAny_Name (wpAny_loadName_local I.ok.kind hk hn hm ⟨.rfl, v, H, I, r, h⟩) hd
  · rw [hk] at hk'
    rcases hk' with z | z <;> cases z
theorem pq_cell {i : Nat} {x : Str} (hN : X.N[i]? = some x) (hk : X.env.kindOf x = some .cell) (hd : (x == ("__debug__" : Str)) = false := by decide) : PQ X (.Name x pos) (tVar i) := by
  refine ⟨fun pins s σ H Q I h => ?_⟩
  obtain ⟨v, e, h⟩ := h
  obtain ⟨m, hn, hl⟩ := I.loc
  obtain ⟨u, r, l⟩ := hl i x v hN e (.inr (.inl hk))
  rcases l with ⟨hk', _⟩ | ⟨_, c, hc, hcell⟩
  · rw [hk] at hk'
    cases hk'
  · exact wpAny_Name (wpAny_loadName_cell I.ok.kind hk hc hcell ⟨.rfl, v, H, I, r, h⟩) hd
theorem pq_int {i j} : PQ X (.Constant (.int i) j pos) (tC (.int i)) := ⟨fun _ _ _ H _ I h => wpAny_Constant_int ⟨.tok, .int i, H, I.tok _, ⟨_, rfl⟩, h⟩⟩
theorem pq_str {i j} : PQ X (.Constant (.str i) j pos) (tC (.str i)) := ⟨fun _ _ _ H _ I h => Calls.Constant_str ⟨.tok, .str i, H, I.tok _, ⟨_, rfl⟩, h⟩⟩
theorem pq_add (ha : PQ X e te) (hb : PQ X f tf) : PQ X (.BinOp e .Add f pos) (tOp (rI0 fun i j => V.int (i + j)) te tf) := by
  refine ⟨fun pins s σ H Q I h => ?_⟩
  refine wpAny_BinOp (thn (ha.run pins s σ H _ I h) fun v s1 ⟨k1, x, H1, I1, r1, q1⟩ => ?_)
  refine thn (hb.run pins s1 σ H1 _ I1 q1) fun u s2 ⟨k2, y, H2, I2, r2, q2⟩ => ?_
  obtain ⟨i, j, rfl, rfl, q⟩ := q2
  obtain ⟨t, rfl⟩ := r1
  obtain ⟨t', rfl⟩ := r2
  exact add_int ⟨(k1.trans k2).trans .tok, .int (i + j), H2, I2.tok _, ⟨_, rfl⟩, q⟩
theorem pq_cat (ha : PQ X e te) (hb : PQ X f tf) : PQ X (.BinOp e .Add f pos) (tOp (fun x y H Q => ∃ i j, x = .str i ∧ y = .str j ∧ i.length + j.length ≤ sizeLine ∧ Q (.str (i ++ j)) H) te tf) := by
  refine ⟨fun pins s σ H Q I h => ?_⟩
  refine wpAny_BinOp (thn (ha.run pins s σ H _ I h) fun v s1 ⟨k1, x, H1, I1, r1, q1⟩ => ?_)
  refine thn (hb.run pins s1 σ H1 _ I1 q1) fun u s2 ⟨k2, y, H2, I2, r2, q2⟩ => ?_
  obtain ⟨i, j, rfl, rfl, hz, q⟩ := q2
  obtain ⟨t, rfl⟩ := r1
  obtain ⟨t', rfl⟩ := r2
  exact PyProof.Rows.add_str (fun t' tk => ⟨(k1.trans k2).trans .tok, .str (i ++ j), H2, I2.tok _, ⟨_, rfl⟩, q⟩) hz
structure PQO (X : Cx) (e : Option Expr) (t : TO) : Prop where
  run : ∀ (pins : List (Addr × Obj)) (s : Shared) (σ : L2.St) (H : Hp) (Q : Option Int → Hp → Prop), Inv X pins σ H s → t σ H Q →
    wpAny (model X.prog X.w) X.A (evalPart e X.env) (fun u z => Kp X s z ∧ ∃ o H', Inv X pins σ H' z ∧ IsPart u o ∧ Q o H') X.xe s
theorem pqo_none : PQO X none tNoPart := by
  refine ⟨fun pins s σ H Q I h => ?_⟩
  rw [evalPart_none]
  exact wpAny_pure ⟨.rfl, none, H, I, .none, h⟩
theorem pqo_some (h : PQ X e te) : PQO X (some e) (tPart te) := by
  refine ⟨fun pins s σ H Q I hw => ?_⟩
  rw [evalPart_some]
  refine thn (h.run pins s σ H _ I hw) fun u s1 ⟨k, x, H1, I1, r1, q1⟩ => ?_
  obtain ⟨i, rfl, q⟩ := q1
  obtain ⟨t, rfl⟩ := r1
  exact ⟨k, some i, H1, I1, .int i t, q⟩
theorem pq_slice {lo hi : Option Expr} {p2 : Pos} {tl th : TO} (he : PQ X e te) (hl : PQO X lo tl) (hu : PQO X hi th) : PQ X (.Subscript e (.Slice lo hi none p2) pos) (tSl rSlS te tl th) := by
  refine ⟨fun pins s σ H Q I h => ?_⟩
  refine Subscript_ (thn (he.run pins s σ H _ I h) fun v s1 ⟨k1, x, H1, I1, r1, q1⟩ => ?_)
  refine wpAny_Slice (thn (hl.run pins s1 σ H1 _ I1 q1) fun vl s2 ⟨k2, l, H2, I2, pl, q2⟩ => thn (hu.run pins s2 σ H2 _ I2 q2) fun vu s3 ⟨k3, u, H3, I3, pu, q3⟩ => ?_)
  rw [evalPart_none]
  refine wpAny_pure ?_
  obtain ⟨z, rfl, hz, q⟩ := q3
  obtain ⟨t, rfl⟩ := r1
  obtain ⟨l, rfl, rfl⟩ := IsPart.raw pl
  obtain ⟨u, rfl, rfl⟩ := IsPart.raw pu
  have I4 : Inv X pins σ H3 { s3 with heap := s3.heap.push { cls := .type "slice", data := .fields #[partValue l, partValue u, .none] } } := I3.kept (t' := s3.toks) fun b ob q => Heap.get?_push_of_some _ q
  have kk : Kp X s { s3 with heap := s3.heap.push { cls := .type "slice", data := .fields #[partValue l, partValue u, .none] } } := ((k1.trans k2).trans k3).trans (push_kp (k := s3.toks))
  obtain ⟨os, hos, hcs, hds⟩ := Heap.IsSliceOf.new s3.heap (partValue l) (partValue u) .none
  have hln : (PySem.StrLaws.sliceText z (l.map (·.1)) (u.map (·.1))).length ≤ sizeLine := by
    rw [sliceText_cut]
    exact Nat.le_trans (cutS_length z _ _) hz
  have qq := q
  rw [← sliceText_cut] at qq
  unfold PySem.StrLaws.sliceText at qq hln
  have g : wpAny (model X.prog X.w) X.A (getItem (.str z t) (.ref s3.heap.objs.size)) (fun v z => Kp X s z ∧ EP X pins σ Q v z) X.xe { s3 with heap := s3.heap.push { cls := .type "slice", data := .fields #[partValue l, partValue u, .none] } } := by
    refine wpAny_getItem_str_slice (l := l) (u := u) (st := none) ⟨os, hos, hcs, hds⟩ rfl ?_
    show Made.post (if ((1 : Int) == 1 && (Builtin.Str.strSliceIndices (l.map (·.1)) (u.map (·.1)) 1 z.length).length == z.length) = true then Made.val (.str z t) else Made.str ⟨((Builtin.Str.strSliceIndices (l.map (·.1)) (u.map (·.1)) 1 z.length).filterMap (z.cps[·]?)).toArray⟩) _ _
    by_cases c : ((1 : Int) == 1 && (Builtin.Str.strSliceIndices (l.map (·.1)) (u.map (·.1)) 1 z.length).length == z.length) = true
    · rw [if_pos c] at qq ⊢
      exact ⟨kk, .str z, H3, I4, ⟨t, rfl⟩, qq⟩
    · rw [if_neg c] at qq hln ⊢
      exact ⟨hln, kk.trans .tok, .str _, H3, I4.tok _, ⟨_, rfl⟩, qq⟩
  exact tail_any (ops := [.ref s3.heap.objs.size, .str z t]) (typeIs_str _ _ _) PySem.F.slot_str_getitem.lookup g (by with_unfolding_all rfl)
theorem pqa_nil : PQA X [] tNil := ⟨fun _ _ _ _ H Q I h => Calls.spliced_nil ⟨.rfl, [], H, I, .nil, h⟩⟩
theorem pqa_cons (ha : PQ X e te) (hr : PQA X es t) (hs : starEach (e :: es) X.env = (false, eval e X.env) :: starEach es X.env := by rfl) : PQA X (e :: es) (tCons te t) := by
  refine ⟨fun pos pins s σ H Q I h => ?_⟩
  rw [hs]
  show wpAny _ _ (spliced ((false, eval e X.env) :: backTo pos (starEach es X.env))) _ _ s
  refine Calls.spliced_cons (thn (ha.run pins s σ H _ I h) fun u s1 ⟨k1, x, H1, I1, r1, q1⟩ => ?_)
  exact thn (hr.run pos pins s1 σ H1 _ I1 q1) fun us s2 ⟨k2, xs, H2, I2, r2, q2⟩ => ⟨k1.trans k2, x :: xs, H2, I2, .cons r1 r2, q2⟩
theorem pq_lst (h : PQA X es t) : PQ X (.List es pos) (tLst t) := by
  refine ⟨fun pins s σ H Q I hq => ?_⟩
  refine wpAny_List_spliced (thn (h.run pos pins s σ H _ I hq) fun us s1 ⟨k, xs, H1, I1, r, z, q⟩ => ⟨by rw [← r.length]; exact z, ?_⟩)
  have hf : H1 s1.heap.objs.size = none := I1.hok.fresh (Nat.le_refl _)
  refine ⟨k.trans (push_kp (k := s1.toks)), .ref s1.heap.objs.size, upd H1 s1.heap.objs.size (.lst xs), I1.laid (t' := s1.toks) (fun b u e => Heap.get?_push_of_some _ e) (Nat.le_refl _) ?_, rfl, q _ hf⟩
  exact ⟨z, us, 0, r, Heap.get?_push_size _ rfl⟩
theorem pq_d {CX : CXT} {k : Nat} {x : Str} {g : Addr} {fd : FuncData} {ps : List Str} {sp : Sp} {E : L2.St → XK} (D : Df X.prog X.w X.K X.mg X.base CX k x g fd ps sp) (hc : Clean X.A) (hr : Room k X.A) (hg : Gl X x) (hx : ∀ σ, PassesAt CX X σ (E σ)) (ha : PQA X (e :: es) t) (hdb : (x == ("__debug__" : Str)) = false := by decide)
    (he : starEach (e :: es) X.env = (false, eval e X.env) :: starEach es X.env := by rfl) (hpl : (backTo pos (starEach es X.env)).any (·.1) = false := by rfl) : PQ X (.Call (.Name x p) (e :: es) [] pos) (tCallG sp [] E t) := by
  refine ⟨fun pins s σ H Q I h => wpAny_Call_Name_kw (ld_glob I hg D.m ?_ hdb)⟩
  refine PySem.W.callWith_K (h₀ := X.base) I.ok.mod.kin D.kp (thn (ha.run pos pins s σ H _ I h) fun us s1 ⟨k1, vs, H1, I1, r, q⟩ => ⟨I1.kIn, ?_⟩) he hpl
  have r2 := r.append (.nil : Vals [] [])
  have q' : sp (vs ++ []) H1 Q (E σ) := q
  have hl : (us ++ []).length = ps.length := r2.length ▸ D.G.len _ _ _ _ q'
  refine wpAny_call (codeAny_mono (D.G.run X.A X.stack s1 H1 ⟨us, []⟩ (us ++ []) (vs ++ []) Q (E σ) hc hr I1.env0 (D.b s1 us I1.kIn hl) r2 q') ?_)
  intro r s' hq
  match r, hq with
  | .error e, hq => exact hx σ pins H1 s1 e s' I1 hq
  | .ok (.ret u), hq => exact ⟨k1.trans (call_kp I1 hq), I1.after hq⟩
  | .ok .next, hq => exact False.elim hq
  | .ok .brk, hq => exact False.elim hq
  | .ok .cont, hq => exact False.elim hq
end
end Gd

namespace Gd
open PySem PySem.Spec PyProof.Rows L2
section
variable {X : Cx} {e f : Expr} {es : List Expr} {te tf : TE} {t : TA} {pos p p' : Pos} {y : Str}
/-- a name of the frame is stored: the frame's names behind it -/
theorem store_ns {pins : List (Addr × Obj)} {σ : L2.St} {H : Hp} {s : Shared} {E : Value → Shared → Prop} {i : Nat} {x : Str} {v : V} {u : Value} {Q : Unit → Shared → Prop} (I : Inv X pins σ H s) (hN : X.N.Nodup) (hi : X.N[i]? = some x) (hk : X.env.kindOf x = some .local) (r : RelV v u)
    (h : ∀ s', (∀ m, s.heap.Ns X.env.locals m → s'.heap.Ns X.env.locals fun n => if n = x then some u else m n) → s.toks ≤ s'.toks → Inv X pins (σ.set i (some v)) H s' → Q () s') : wpAny (model X.prog X.w) X.A (storeName X.env x u) Q E s := by
  obtain ⟨m, hn, hl⟩ := id I.loc
  have il : i < σ.length := by
    have := (List.getElem?_eq_some_iff.mp hi).1
    rw [I.len]
    exact this
  refine wpAny_storeName_local hk hn (fun h' hn' hs => ?_) (by rw [I.ok.kind]; rfl)
  obtain ⟨oL, _, _, hoL, _⟩ := id hn
  have far : ∀ {b : Addr} {o : Obj}, X.s_0.heap.get? b = some o → h'.get? b = s.heap.get? b := fun {b o} z =>
    hs.2 b fun q => absurd (q ▸ Heap.lt_size z) (Nat.not_lt.mpr I.ok.above)
  have bse : Un X.fs X.ex X.H_0 H X.s_0.heap h' :=
    { keep := fun b o z n a c => (far z).trans (I.base.keep b o z n a c)
      slot := fun b o z n a c => (I.base.slot b o z n a c).imp fun sl q => (far z).trans q
      free := I.base.free
      there := fun b o z c => (I.base.there b o z c).imp fun o' q => (far z).trans q
      tups := I.base.tups, frzs := I.base.frzs, tbls := I.base.tbls }
  have hok' : HOk X.prog X.w H h' := fun b ob z => (I.hok b ob z).stay (fun c w hc q => (hs.2 c (by
    intro qq
    rw [qq] at hc
    rcases hc with hc | hc
    · rw [← hc, I.free] at z
      cases z
    · rw [I.free] at hc
      cases hc)).trans q) (fun _ q => q) fun _ _ q => q
  have cne := I.cne
  have inv : Inv X pins (σ.set i (some v)) H { s with heap := h', toks := s.toks + 1 } :=
    { ok := I.ok, os := I.os, bare := I.bare, base := bse
      loc := ⟨_, hn', fun j z v' e1 e2 e3 => by
        by_cases hj : j = i
        · rw [hj] at e1 e2
          rw [hi] at e1
          rw [List.getElem?_set_self il] at e2
          have a : z = x := (Option.some.inj e1).symm
          have b : v' = v := (Option.some.inj (Option.some.inj e2)).symm
          rw [a, b]
          exact ⟨u, r, .inl ⟨hk, by simp⟩⟩
        · rw [List.getElem?_set_ne (fun q => hj q.symm)] at e2
          obtain ⟨u', r', q⟩ := hl j z v' e1 e2 e3
          refine ⟨u', r', q.imp (fun q => ⟨q.1, ?_⟩) fun q => ⟨q.1, ?_⟩⟩
          · show (if z = x then some u else m z) = some u'
            rw [if_neg fun q' : z = x => hj (nodup_ix hN e1 (by rw [q']; exact hi))]
            exact q.2
          · exact q.2.imp fun c q => ⟨q.1, q.2.sameBut hs (cne z c q.1)⟩⟩
      cell := fun z c q => (I.cell z c q).imp fun w g => g.sameBut hs (cne z c q)
      free := I.free, freeC := I.freeC
      pin := fun pp hp => ⟨(hs.2 pp.1 (I.pin pp hp).2.2.1).trans (I.pin pp hp).1, (I.pin pp hp).2⟩
      hok := hok', len := by rw [List.length_set]; exact I.len }
  refine h _ (fun m' hm' => ?_) (Nat.le_succ _) inv
  have e : m' = m := funext (ns_uniq hm' hn)
  rw [e]
  exact hn'
/-- .. where a token is known -/
def PSk (X : Cx) (y : Str) (st : List Stmt) (t : TS) : Prop := ∀ (pins : List (Addr × Obj)) (s : Shared) (σ : L2.St) (H : Hp) (D : Ends), Tkn X y s → Inv X pins σ H s → t D σ H → wpAny (model X.prog X.w) X.A (execs st X.env) (SP X pins D) X.xe s
theorem PSk.of {st : List Stmt} {t : TS} (h : PSs X st t) : PSk X y st t := fun pins s σ H D _ I q => h.run pins s σ H D I q
/-- x = e, the token of y stays known -/
theorem psk_set {i : Nat} {x : Str} {rest : List Stmt} {u : TS} (hN : X.N.Nodup) (hi : X.N[i]? = some x) (hk : X.env.kindOf x = some .local) (a : PQ X e te) (hy : y ≠ x) (b : PSk X y rest u) (hs : swapsWith e (some (.Name x p')) pos.line X.env = pure false := by rfl) :
    PSk X y (.Assign [.Name x p'] e pos :: rest) (tSeq (tAsg te (gName i)) u) := by
  intro pins s σ H D ht I h
  refine wpAny_execs_cons (wpAny_Assign_Name (wpAny_mono (PySem.wpAny_toks (a.run pins s σ H _ I h)) (fun v s1 q => ?_) fun _ _ z => z.2) hs)
  obtain ⟨l1, k1, w, H1, I1, r1, q1⟩ := q
  have t1 := ht.keep k1 l1
  refine store_ns I1 hN hi hk r1 fun s2 hm l2 I2 => ?_
  refine b pins s2 _ H1 D ?_ I2 q1
  obtain ⟨m, tk, z, g1, g2, g3, g4⟩ := t1
  refine ⟨_, tk, z, hm m g1, ?_, g3, Nat.lt_of_lt_of_le g4 l2⟩
  show (if y = x then some v else m y) = _
  rw [if_neg hy]
  exact g2
/-- an expression where a token is known -/
def PEk (X : Cx) (y : Str) (e : Expr) (t : TE) : Prop := ∀ (pins : List (Addr × Obj)) (s : Shared) (σ : L2.St) (H : Hp) (Q : VK), Tkn X y s → Inv X pins σ H s → t σ H Q → wpAny (model X.prog X.w) X.A (eval e X.env) (EP X pins σ Q) X.xe s
theorem psk_expr {rest : List Stmt} {u : TS} (a : PEk X y e te) (b : PSs X rest u) (hs : swapsWith e none pos.line X.env = pure false := by rfl) : PSk X y (.Expr e pos :: rest) (tSeq (tDrop te) u) := by
  intro pins s σ H D ht I h
  refine wpAny_execs_cons (wpAny_Expr_any (thn (a pins s σ H _ ht I h) fun v s1 ⟨x, H1, I1, r1, q1⟩ => ?_) I.quiet hs)
  exact b.run pins s1 σ H1 D I1 q1
theorem tk_val {pins : List (Addr × Obj)} {σ : L2.St} {H : Hp} {s : Shared} {i : Nat} {v : V} (I : Inv X pins σ H s) (hN : X.N[i]? = some y) (hk : X.env.kindOf y = some .local) (e : σ[i]? = some (some v)) (ht : Tkn X y s) :
    ∃ m z t, s.heap.Ns X.env.locals m ∧ m y = some (.str z t) ∧ t ≠ 0 ∧ t < s.toks ∧ v = .str z := by
  obtain ⟨m, hn, hl⟩ := I.loc
  obtain ⟨m', t, z, g1, g2, g3, g4⟩ := ht
  obtain ⟨u, r, l⟩ := hl i y v hN e (.inl hk)
  rcases l with ⟨_, hm⟩ | ⟨hk', _⟩
  · have e1 : u = .str z t := by
      have := (ns_uniq hn g1 y).symm.trans hm
      rw [g2] at this
      exact (Option.some.inj this).symm
    refine ⟨m', z, t, g1, g2, g3, g4, ?_⟩
    subst e1
    cases v with
    | str z' =>
      obtain ⟨t', q⟩ := r
      injection q with q1 _
      rw [q1]
    | int z' => obtain ⟨t', q⟩ := r; cases q
    | byt z' => obtain ⟨t', q⟩ := r; cases q
    | flt z' => obtain ⟨t', q⟩ := r; cases q
    | non => cases (show Value.str z t = Value.none from r)
    | bl b => cases (show Value.str z t = Value.bool b from r)
    | ref a => cases (show Value.str z t = Value.ref a from r)
    | ty a => cases (show Value.str z t = Value.type a from r)
  · rw [hk] at hk'
    rcases hk' with z | z <;> cases z
def tReplK (i : Nat) (to : TE) (w : Str) : TE := fun σ H Q => to σ H fun v H1 => ∃ x z, v = .str x ∧ σ[i]? = some (some (.str z)) ∧ x.length + (x.length + 1) * z.length ≤ 16777216 ∧ Q (.str (Txt.replace x w z)) H1
/-- o.replace(written, y) -/
theorem pek_repl {i j : Nat} {o : Expr} {to : TE} {w : Str} {c0 c1 apos : Pos} (hN : X.N[i]? = some y) (hk : X.env.kindOf y = some .local) (nb : PySem.W.nsIn X.K cStatics sharingNotToldKey = some none) (ho : PQ X o to)
    (hst : starEach [.Constant (.str w) j c0, .Name y c1] X.env = [(false, eval (.Constant (.str w) j c0) X.env), (false, eval (.Name y c1) X.env)] := by rfl)
    (hbase : attributeBase o "replace" X.env (eval o X.env) = eval o X.env := by rfl) (hline : (apos.endLine == pos.line) = true := by rfl) (hd : (y == ("__debug__" : Str)) = false := by decide) :
    PEk X y (.Call (.Attribute o "replace" apos) [.Constant (.str w) j c0, .Name y c1] [] pos) (tReplK i to w) := by
  intro pins s σ H Q ht I h
  refine PySem.Call_method2 hbase hst hline (wpAny_mono (PySem.wpAny_toks (ho.run pins s σ H _ I h)) (fun v s1 q => ?_) fun _ _ z => z.2)
  obtain ⟨l1, k1, v', H1, I1, r1, x, z, e1, e2, hb, q⟩ := q
  subst e1
  obtain ⟨tx, e3⟩ := r1
  subst e3
  have t1 := ht.keep k1 l1
  refine ⟨"str", _, PySem.F.plainAttrs_str, PySem.F.slot_str_replace, PySem.F.type_str_replace, typeIs_str _ _ _, (fun _ e => nomatch e), Calls.callWith_builtin rfl (Calls.evalArgs_plain (Calls.spliced_cons ?_))⟩
  refine Calls.Constant_str (Calls.spliced_cons ?_)
  obtain ⟨m, z', t, g1, g2, g3, g4, g5⟩ := tk_val I1 hN hk e2 t1
  cases g5
  refine wpAny_Name (wpAny_loadName_local I1.ok.kind hk g1 g2 (Calls.spliced_nil ?_)) hd
  have nb' : NoneBooked s1.heap := let ⟨mc, a, _⟩ := I1.ok.mod.nolimit; ⟨mc, a.keeps I1.bk, PySem.W.ns_none_of I1.ok.mod.kin a nb⟩
  exact PySem.SC.replaceA (Nat.ne_of_gt (Nat.lt_of_le_of_lt (Nat.zero_le t) g4)) g3 (Nat.ne_of_gt g4) hb (fun t' k => ⟨.str (Txt.replace x w z), H1, I1.tok k, ⟨t', rfl⟩, q⟩) nb'
/-- [a, b] where the token is asked in b -/
theorem pek_two {tb : TE} (ha : PQ X e te) (hb : PEk X y f tb) (h1 : starEach (e :: [f]) X.env = (false, eval e X.env) :: starEach [f] X.env := by rfl) (h2 : starEach (f :: []) X.env = (false, eval f X.env) :: starEach [] X.env := by rfl) :
    PEk X y (.List [e, f] pos) (tLst (tCons te (tCons tb tNil))) := by
  intro pins s σ H Q ht I hq
  refine wpAny_List_spliced ?_
  rw [h1]
  show wpAny _ _ (spliced ((false, eval e X.env) :: backTo pos (starEach [f] X.env))) _ _ s
  refine Calls.spliced_cons (wpAny_mono (PySem.wpAny_toks (ha.run pins s σ H _ I hq)) (fun v s1 q => ?_) fun _ _ z => z.2)
  obtain ⟨l1, k1, x, H1, I1, r1, q1⟩ := q
  rw [h2]
  show wpAny _ _ (spliced ((false, eval f X.env) :: backTo pos (starEach [] X.env))) _ _ s1
  refine Calls.spliced_cons (thn (hb pins s1 σ H1 _ (ht.keep k1 l1) I1 q1) fun u s2 ⟨z, H2, I2, r2, q2⟩ => ?_)
  obtain ⟨zz, q2⟩ := q2
  refine Calls.spliced_nil ⟨zz, ?_⟩
  have hf : H2 s2.heap.objs.size = none := I2.hok.fresh (Nat.le_refl _)
  refine ⟨.ref s2.heap.objs.size, upd H2 s2.heap.objs.size (.lst [x, z]), I2.laid (t' := s2.toks) (fun b u e => Heap.get?_push_of_some _ e) (Nat.le_refl _) ?_, rfl, q2 _ hf⟩
  exact ⟨zz, _, 0, .cons r1 (.cons r2 .nil), Heap.get?_push_size _ rfl⟩
/-- o.m(e) where the token is asked in e -/
theorem pek_bm {o : Expr} {to ta : TE} {name : Str} {apos cpos : Pos} {T id : String} {r : V → List V → Hp → VK → Prop} (pa : PlainAttrs T) (slot : Slot T name id) (hty : typeOf (.builtin id) = pure (.type "method_descriptor")) (hm : MtR X id r) (ho : PQ X o to) (ha : PEk X y e ta)
    (hbase : attributeBase o name X.env (eval o X.env) = eval o X.env := by rfl)
    (hfew : ((backTo cpos (starEach [e] X.env)).all (fun x => !x.1) && (backToKw cpos (keywordEach [] X.env)).all (fun x => x.1.isSome) && decide ([e].length + ([] : List Keyword).length + (if ([] : List Keyword).isEmpty then 0 else 1) < 30)) = true := by rfl)
    (hline : (apos.endLine == cpos.line) = true := by rfl) (hs : starEach [e] X.env = (false, eval e X.env) :: starEach [] X.env := by rfl) :
    PEk X y (.Call (.Attribute o name apos) [e] [] cpos) (tBM X.K T r to (tCons ta tNil)) := by
  intro pins s σ H Q ht I h
  refine wpAny_Call_method_late hbase hfew hline rfl (wpAny_mono (PySem.wpAny_toks (ho.run pins s σ H _ I h)) (fun v s1 q => ?_) fun _ _ z => z.2)
  obtain ⟨l1, k1, x, H1, I1, r1, ty, q1⟩ := q
  obtain ⟨h1, h2⟩ := tyV_is I1 r1 ty
  refine ⟨T, id, pa, slot, hty, h1, h2, ?_⟩
  rw [hs]
  refine Calls.callWith_builtin (by rfl) (Calls.evalArgs_plain (Calls.spliced_cons ?_))
  exact thn (ha pins s1 σ H1 _ (ht.keep k1 l1) I1 q1) fun u s2 ⟨z, H2, I2, r2, q2⟩ => Calls.spliced_nil (hm pins s2 σ H2 x [z] v [u] Q I2 r1 (.cons r2 .nil) q2)
end
end Gd

namespace Gd
open PySem PySem.Spec PyProof.Rows L2
section
variable {X : Cx} {e f : Expr} {es : List Expr} {te tf : TE} {t : TA} {pos p p' : Pos} {y : Str}
/-- written texts with tokens from n to k -/
inductive TkL (n k : Nat) : List Str → List Value → Prop
  | nil : TkL n k [] []
  | cons {z : Str} {t : Tok} {ls us} : n ≤ t → t < k → TkL n k ls us → TkL n k (z :: ls) (.str z t :: us)
theorem TkL.mono {n k j : Nat} (h : k ≤ j) : ∀ {ls us}, TkL n k ls us → TkL n j ls us
  | _, _, .nil => .nil
  | _, _, .cons a b r => .cons a (Nat.lt_of_lt_of_le b h) (r.mono h)
theorem TkL.down {n m k : Nat} (h : m ≤ n) : ∀ {ls us}, TkL n k ls us → TkL m k ls us
  | _, _, .nil => .nil
  | _, _, .cons a b r => .cons (Nat.le_trans h a) b (r.down h)
theorem TkL.get {n k : Nat} {z : Str} : ∀ {ls us} {i : Nat}, TkL n k ls us → ls[i]? = some z → ∃ t, us[i]? = some (.str z t) ∧ n ≤ t ∧ t < k
  | _, _, _, .nil, e => by simp at e
  | _, _, 0, .cons a b _, e => by
    have e := Option.some.inj e
    subst e
    exact ⟨_, rfl, a, b⟩
  | _, _, i + 1, .cons _ _ r, e => by
    obtain ⟨t, h1, h2⟩ := r.get (i := i) (by simpa using e)
    exact ⟨t, by simpa using h1, h2⟩
theorem TkL.len {n k : Nat} : ∀ {ls us}, TkL n k ls us → us.length = ls.length
  | _, _, .nil => rfl
  | _, _, .cons _ _ r => congrArg (· + 1) r.len
/-- written texts -/
inductive Lits : List Expr → List Str → Prop
  | nil : Lits [] []
  | cons {z : Str} {j : Nat} {q : Pos} {es ls} : Lits es ls → Lits (.Constant (.str z) j q :: es) (z :: ls)
theorem lits_run {M : Model} {A : Around} {E : Value → Shared → Prop} {env : Env} {pos : Pos} : ∀ {es ls}, Lits es ls → ∀ s : Shared,
    wpAny M A (spliced (backTo pos (starEach es env))) (fun us z => ∃ k, z = { s with toks := k } ∧ s.toks ≤ k ∧ TkL s.toks k ls us) E s
  | _, _, .nil, s => Calls.spliced_nil ⟨s.toks, rfl, Nat.le_refl _, .nil⟩
  | _, _, .cons (z := z) (j := j) (q := q) (es := es) h, s => by
    show wpAny _ _ (spliced ((false, eval (.Constant (.str z) j q) env) :: backTo pos (starEach es env))) _ _ s
    refine Calls.spliced_cons (Calls.Constant_str ?_)
    refine thn (lits_run h { s with toks := s.toks + 1 }) fun us z q => ?_
    obtain ⟨k, e, l, t⟩ := q
    have l' : s.toks + 1 ≤ k := l
    exact ⟨k, e, Nat.le_trans (Nat.le_succ _) l', .cons (Nat.le_refl _) l' (t.down (Nat.le_succ _))⟩
def tPick (ls : List Str) (ti : TE) : TE := fun σ H Q => ti σ H fun v H1 => ∃ d z, v = .int d ∧ 0 ≤ d ∧ ls[d.toNat]? = some z ∧ Q (.str z) H1
/-- y = [written texts][i]: behind it the token of y is known -/
theorem psst_pick {i : Nat} {ls : List Str} {b : Expr} {tb : TE} {lp sp : Pos} {rest : List Stmt} {u : TS} (hN : X.N.Nodup) (hi : X.N[i]? = some y) (hk : X.env.kindOf y = some .local) (hl : Lits es ls) (hz : ls.length ≤ 60) (hb : PE X b tb) (hpl : PlainIx b) (r : PSk X y rest u)
    (hs : swapsWith (.Subscript (.List es lp) b sp) (some (.Name y p')) pos.line X.env = pure false := by rfl) : PSsT X (.Assign [.Name y p'] (.Subscript (.List es lp) b sp) pos :: rest) (tSeq (tAsg (tPick ls tb) (gName i)) u) := by
  intro pins s σ H D h0 I h
  refine wpAny_execs_cons (wpAny_Assign_Name ?_ hs)
  refine Subscript_ (wpAny_List_spliced (thn (lits_run hl s) fun us s1 q => ?_))
  obtain ⟨k, e1, lk, tl⟩ := q
  subst e1
  have n16 := sizeLine_eq
  have n63 := line63
  refine ⟨by rw [tl.len]; omega, ?_⟩
  have I1 : Inv X pins σ H { s with heap := s.heap.push { cls := .type "list", data := .seq us.toArray }, toks := k } := I.kept (t' := k) fun b o q => Heap.get?_push_of_some _ q
  have I2 : Inv X ((s.heap.objs.size, { cls := .type "list", data := .seq us.toArray }) :: pins) σ H { s with heap := s.heap.push { cls := .type "list", data := .seq us.toArray }, toks := k } := I1.pins_of fun pp hp => by
    rcases List.mem_cons.mp hp with e | hp
    · subst e
      exact ⟨Heap.get?_push_size _ rfl, I.hok.fresh (Nat.le_refl _), Nat.ne_of_gt I.lt, I.nofs (Nat.le_refl _), fun v z => nomatch z⟩
    · exact I1.pin pp (List.mem_append_right _ hp)
  refine wpAny_mono (PySem.wpAny_toks (hb.run _ _ σ H _ I2 h)) (fun iv s2 q => ?_) fun _ _ z => z.2
  obtain ⟨l2, v, H2, I3, r3, d, z, e2, d0, hz2, q⟩ := q
  subst e2
  obtain ⟨ti, e3⟩ := r3
  subst e3
  have hp := (I3.pin _ (List.mem_append_right _ List.mem_cons_self)).1
  obtain ⟨t, e4, t1, t2⟩ := tl.get hz2
  have il : s2.heap.IsList s.heap.objs.size us.toArray := ⟨_, hp, rfl, _, rfl⟩
  have I4 : Inv X pins σ H2 s2 := I3.pins_of fun pp hp => I3.pin pp (List.mem_append_right _ (List.mem_cons_of_mem _ hp))
  have dl : d.toNat < ls.length := (List.getElem?_eq_some_iff.mp hz2).1
  refine item_listR il d0 (by omega) (by simpa using e4) ?_ (hpl _ _)
  refine store_ns (v := .str z) I4 hN hi hk ⟨t, rfl⟩ fun s3 hm l3 I5 => ?_
  refine r pins s3 _ H2 D ?_ I5 q
  obtain ⟨m, hn, _⟩ := I4.loc
  refine ⟨_, t, z, hm m hn, by show (if y = y then _ else _) = _; rw [if_pos rfl], fun c => ?_, Nat.lt_of_lt_of_le t2 (Nat.le_trans l2 l3)⟩
  rw [c] at t1
  have : s.toks ≤ 0 := t1
  omega
/-- behind the written text of a join a token is out -/
theorem po_join {c : Str} {j : Nat} {cp apos : Pos} (he : PE X e te) (hs : starEach [e] X.env = [(false, eval e X.env)] := by rfl) (hbase : attributeBase (.Constant (.str c) j cp) "join" X.env (eval (.Constant (.str c) j cp) X.env) = eval (.Constant (.str c) j cp) X.env := by rfl) (hline : (apos.endLine == pos.line) = true := by rfl) :
    Po X (.Call (.Attribute (.Constant (.str c) j cp) "join" apos) [e] [] pos) (tM1 (fun x xs H Q => ∃ a p, ∃ ys : List Str, x = .str a ∧ xs = [.ref p] ∧ (SqL X.K H p (ys.map V.str) ∨ SqT X.K H p (ys.map V.str)) ∧ (ys.map (·.length)).sum + ys.length * a.length ≤ 16777216 ∧ Q (.str (PySem.Txt.join a ys)) H) (tC (.str c)) te) := by
  intro pins s σ H Q I h
  refine PySem.Call_method1 hbase hs hline (Calls.Constant_str ?_)
  obtain ⟨_, h⟩ := h
  refine ⟨"str", _, PySem.F.plainAttrs_str, PySem.F.slot_str_join, PySem.F.type_str_join, typeIs_str _ _ _, (fun _ e => nomatch e), Calls.callWith_builtin rfl (Calls.evalArgs_plain (Calls.spliced_cons ?_))⟩
  refine wpAny_mono (PySem.wpAny_toks_of (n := 1) (by show 1 ≤ s.toks + 1; omega) (he.run pins _ σ H _ (I.tok (s.toks + 1)) h)) (fun u s2 q => ?_) fun _ _ z => z.2
  obtain ⟨l2, z, H2, I2, r2, q2⟩ := q
  exact Calls.spliced_nil (wpAny_mono (PySem.wpAny_toks_of (n := 1) l2 (mt_join pins s2 σ H2 (.str c) [z] _ [u] Q I2 ⟨s.toks, rfl⟩ (.cons r2 .nil) q2)) (fun _ _ q => q) fun _ _ z => z.2)
end
end Gd

namespace K3
open PySem L2 Gd
def top (i : Nat) : Stmt := PySem.Challenge.pw_formatrepair_k03_words_of_lines.main.body.getD i (.Pass ⟨0, 0, 0, 0⟩)
/-- what the walk asks of the names that no def of the text stands behind -/
structure Txt (K : PySem.W.Frag) (mg : Str → Option Value) (base : Heap) (C_I f_I : Addr) : Prop where
  sys : SysIn base
  e_InvalidLine : PySem.EzValue.LowTxt K mg "InvalidLine" "InvalidLine.__init__" C_I f_I
  nb : PySem.W.nsIn K cStatics sharingNotToldKey = some none
  z_isinstance : mg "isinstance" = none
  z_int : mg "int" = none
  z_bool : mg "bool" = none
  z_str : mg "str" = none
  z_list : mg "list" = none
  z_dict : mg "dict" = none
  z_len : mg "len" = none
  z_all : mg "all" = none
  z_max : mg "max" = none
  z_min : mg "min" = none
  z_range : mg "range" = none
  z_repr : mg "repr" = none
section
variable {P : Program} {w : World} {K : PySem.W.Frag} {mg : Str → Option Value} {base : Heap} {C_I f_I : Addr}
abbrev s_law_cell : Stmt := top 8
theorem sc_law_cell : FnScope ["_law_script", "_law_k"] ["_law_script", "_law_k"] (defScope s_law_cell) := ⟨rfl, rfl, rfl, by decide +kernel, rfl, by decide +kernel, by decide +kernel⟩
theorem ok_cell {f : Addr} {fd : FuncData} (F : Fun K "_law_cell" "_law_cell" s_law_cell f fd) (T : Txt K mg base C_I f_I) : FnG P w K mg base CX0 1 f fd ["_law_script", "_law_k"] (spScr K) := by
  refine okG F sc_law_cell (fun vs H Q E h => ?_) (fun cdv A outer s H vs Q E hc hr h => ?_)
  · obtain ⟨p, ns, k, rfl, _⟩ := h
    rfl
  obtain ⟨p, ns, k, rfl, hs, k0, k1, q⟩ := h
  refine ⟨_, (pss_cons (ps_if (pt_cmpR op_lt (pv 1) (pe_callB call_len_seq (by rfl) T.z_len (by decide +kernel) (pa_cons (pv 0) pa_nil)) (nomark _))
  (pss_one (ps_ret (pe_ix ix_list (pv 0) (pv 1) (fun _ _ => rfl)))) pss_nil)
 (pss_one (ps_ret (pe_op op_add (pe_op op_mul pe_int (pv 1)) pe_int)))), ?_⟩
  refine ⟨_, rfl, _, rfl, p, _, rfl, .inl hs, _, _, rfl, rfl, _, rfl, ?_⟩
  refine ite2 (fun c => ?_) (fun c => ?_)
  · have c1 := of_decide_eq_true c
    rw [List.length_map] at c1
    obtain ⟨z, hz⟩ := at_script k0 c1
    exact ⟨_, rfl, _, rfl, p, _, _, _, rfl, rfl, hs, hz, q z⟩
  · exact ⟨_, rfl, _, _, rfl, rfl, .inl ⟨by decide, by decide⟩, _, _, rfl, rfl, q _⟩
abbrev s_law_box : Stmt := top 9
theorem sc_law_box : FnScope ["_law_cell_here"] ["_law_cell_here"] (defScope s_law_box) := ⟨rfl, rfl, rfl, by decide +kernel, rfl, by decide +kernel, by decide +kernel⟩
theorem ok_box {f : Addr} {fd : FuncData} (F : Fun K "_law_box" "_law_box" s_law_box f fd) (T : Txt K mg base C_I f_I) : FnG P w K mg base CX0 1 f fd ["_law_cell_here"] spBox := by
  refine okG F sc_law_box (fun vs H Q E h => ?_) (fun cdv A outer s H vs Q E hc hr h => ?_)
  · obtain ⟨z, rfl, _⟩ := h
    rfl
  obtain ⟨z, rfl, q⟩ := h
  refine ⟨_, (pss_one (ps_ret (pe_lst (pa_cons (pe_callB (call_max2 rfl) (by rfl) T.z_max (by decide +kernel) (pa_cons pe_int (pa_cons (pe_op op_sub (pv 0) (pe_op op_pow pe_int pe_int)) pa_nil))) (pa_cons (pe_op op_mod (pv 0) pe_int) (pa_cons pe_int pa_nil)))))), ?_⟩
  refine ⟨_, rfl, _, _, rfl, rfl, ⟨by decide, by decide, by decide⟩, _, _, rfl, rfl, _, _, rfl, _, rfl, _, _, rfl, rfl, (by show (0 : Int) < 2147483629; decide), ?_⟩
  refine ⟨(by show 3 ≤ sizeLine; decide), fun p hp => q p _ hp ⟨_, _, _, upd_same, ?_⟩⟩
  have := mod_pos (i := z) (j := 2147483629) (by decide)
  omega
abbrev s_law_take : Stmt := top 10
theorem sc_law_take : FnScope ["_law_box_here", "_law_size", "_law_digit", "_law_mixed"] ["_law_box_here", "_law_size"] (defScope s_law_take) := ⟨rfl, rfl, rfl, by decide +kernel, rfl, by decide +kernel, by decide +kernel⟩
theorem ok_take {f : Addr} {fd : FuncData} (F : Fun K "_law_take" "_law_take" s_law_take f fd) : FnG P w K mg base CX0 1 f fd ["_law_box_here", "_law_size"] spTake := by
  refine okG F sc_law_take (fun vs H Q E h => ?_) (fun cdv A outer s H vs Q E hc hr h => ?_)
  · obtain ⟨p, n, rfl, _⟩ := h
    rfl
  obtain ⟨p, n, rfl, ⟨a, b, c, hp, b0, b1⟩, n0, n1, k⟩ := h
  refine ⟨_, (pss_cons (ps_if (pt_cmpR op_gt (pe_ix ix_list (pv 0) pe_int (fun _ _ => rfl)) pe_int (nomark _))
  (pss_cons (ps_set (i := 2) sc_law_take.nd rfl (Or.inl rfl) (pe_op op_mod (pe_ix ix_list (pv 0) pe_int (fun _ _ => rfl)) (pv 1)))
 (pss_cons (ps_asg (pe_op op_fdivW (pe_ix ix_list (pv 0) pe_int (fun _ _ => rfl)) (pv 1)) (pg_sub (pv 0) pe_int set_list))
 (pss_one (ps_ret (pv 2))))) pss_nil)
 (pss_cons (ps_asg (pe_op op_add (pe_ix ix_list (pv 0) pe_int (fun _ _ => rfl)) pe_int) (pg_sub (pv 0) pe_int set_list))
 (pss_cons (ps_set (i := 3) sc_law_take.nd rfl (Or.inl rfl) (pe_op op_mod (pe_op op_add (pe_op op_add (pe_op op_mul (pe_ix ix_list (pv 0) pe_int (fun _ _ => rfl)) pe_int) (pe_op op_mul pe_int (pe_ix ix_list (pv 0) pe_int (fun _ _ => rfl)))) pe_int) pe_int))
 (pss_cons (ps_asg (pe_op op_mod (pe_op op_add (pe_op op_pow (pv 3) pe_int) (pe_op op_mul pe_int (pe_ix ix_list (pv 0) pe_int (fun _ _ => rfl)))) pe_int) (pg_sub (pv 0) pe_int set_list))
 (pss_one (ps_ret (pe_op op_mod (pe_op op_fdivW (pe_ix ix_list (pv 0) pe_int (fun _ _ => rfl)) pe_int) (pv 1)))))))), ?_⟩
  refine ⟨_, rfl, p, _, _, _, rfl, rfl, SqL.of hp, atI_nat (j := 0) rfl, _, _, rfl, rfl, _, rfl, ?_⟩
  refine ite2 (fun ha => ?_) (fun ha => ?_)
  · refine ⟨_, rfl, p, _, _, _, rfl, rfl, SqL.of hp, atI_nat (j := 0) rfl, _, rfl, _, _, rfl, rfl, n0, ?_⟩
    refine ⟨_, rfl, p, _, _, _, rfl, rfl, SqL.of hp, atI_nat (j := 0) rfl, _, rfl, _, _, rfl, rfl, wide_div (b := 20) n0 (by omega) (by decide) (by decide), ?_⟩
    refine ⟨_, rfl, p, _, _, 0, rfl, rfl, hp, rfl, _, rfl, ?_⟩
    exact k _ _ (mod_pos n0).1 (mod_pos n0).2 (turned_upd b0 b1)
  · refine ⟨_, rfl, p, _, _, _, rfl, rfl, SqL.of hp, atI_nat (j := 2) rfl, _, _, rfl, rfl, ?_⟩
    refine ⟨_, rfl, p, _, _, 2, rfl, rfl, hp, rfl, ?_⟩
    have h1 : ∀ {z : V}, (upd H p (.lst ([V.int a, .int b, .int c].set 2 z))) p = some (.lst [.int a, .int b, z]) := upd_same
    refine ⟨_, rfl, p, _, _, _, rfl, rfl, SqL.of h1, atI_nat (j := 1) rfl, _, _, rfl, rfl, .inr ⟨by decide, by decide⟩, ?_⟩
    refine ⟨_, rfl, p, _, _, _, rfl, rfl, SqL.of h1, atI_nat (j := 2) rfl, _, _, rfl, rfl, .inl ⟨by decide, by decide⟩, _, _, rfl, rfl, _, _, rfl, rfl, _, _, rfl, rfl, (by show (0 : Int) < 2147483647; decide), ?_⟩
    have m0 := mod_pos (i := b * 48271 + 69621 * (c + 1) + 153) (j := 2147483647) (by decide)
    refine ⟨_, rfl, _, _, rfl, rfl, ⟨by decide, by decide, ?_⟩, ?_⟩
    · show ((b * 48271 + 69621 * (c + 1) + 157) % 2147483647).natAbs < 2 ^ 64
      omega
    refine ⟨_, rfl, p, _, _, _, rfl, rfl, SqL.of h1, atI_nat (j := 2) rfl, _, _, rfl, rfl, .inl ⟨by decide, by decide⟩, _, _, rfl, rfl, _, _, rfl, rfl, (by show (0 : Int) < 2147483647; decide), ?_⟩
    refine ⟨_, rfl, p, _, _, 1, rfl, rfl, h1, rfl, ?_⟩
    refine ⟨_, rfl, p, _, _, _, rfl, rfl, SqL.of upd_same, atI_nat (j := 1) rfl, _, _, rfl, rfl, wide_div (b := 5) (by decide) (by decide) (by decide) (by decide), _, rfl, _, _, rfl, rfl, n0, ?_⟩
    refine k _ _ (mod_pos n0).1 (mod_pos n0).2 ?_
    rw [upd_upd]
    exact turned_upd (mod_pos (by decide)).1 (mod_pos (by decide)).2
abbrev s_law_signs : Stmt := top 11
theorem sc_law_signs : FnScope ["_law_signs_here"] [] (defScope s_law_signs) := ⟨rfl, rfl, rfl, by decide +kernel, rfl, by decide +kernel, by decide +kernel⟩
/-- the signs of words -/
def sigs : Str := Str.ofString "!\"#$&'()*+,-./0123456789:;<=>?@ABCDEFGHIJKLMNOPQRSTUVWXYZ[\\]^_" ++ Str.ofString "`abcdefghijklmnopqrstuvwxyz{|}~"
theorem sigs_tx : Tx 100 sigs := Tx.of (by decide +kernel)
theorem sigs_len : sigs.length = 93 := by decide +kernel
theorem sigs_ok : ∀ c ∈ sigs.cps.toList, c ≠ 32 ∧ c ≠ 10 := by
  have : sigs.cps.toList.all (fun c => decide (c ≠ 32) && decide (c ≠ 10)) = true := by decide +kernel
  intro c hc
  have h := List.all_eq_true.mp this c hc
  rw [Bool.and_eq_true, decide_eq_true_eq, decide_eq_true_eq] at h
  exact h
def spSigns : Sp := fun vs H Q _ => vs = [] ∧ Q (.str sigs) H
theorem ok_signs {f : Addr} {fd : FuncData} (F : Fun K "_law_signs" "_law_signs" s_law_signs f fd) (T : Txt K mg base C_I f_I) : FnG P w K mg base CX0 1 f fd [] spSigns := by
  refine okG F sc_law_signs (fun vs H Q E h => ?_) (fun cdv A outer s H vs Q E hc hr h => ?_)
  · obtain ⟨rfl, _⟩ := h
    rfl
  obtain ⟨rfl, q⟩ := h
  refine ⟨_, (pss_cons (ps_set (i := 0) sc_law_signs.nd rfl (Or.inl rfl) pe_str)
 (pss_one (ps_ret (pe_op op_add_str (pv 0) pe_str)))), ?_⟩
  exact ⟨_, rfl, _, _, rfl, rfl, (by decide +kernel), q⟩
/-- InvalidLine with the very value -/
abbrev Rais (C : Addr) (H : Hp) (E : XK) (v : V) : Prop := ∀ d H', Same H H' → H' d = none → E (.ref C) (some d) (upd H' d (.xd [("value", v)]))
def Short (v : V) : Prop := ∀ x, v = .str x → Tx 3000 x
def spSplit (C : Addr) : Sp := fun vs H Q E => ∃ v, vs = [v] ∧ Pv H v ∧ Short v ∧ (dueV v = none → Rais C H E v) ∧ ∀ ws D H', dueV v = some ws → Same H H' → H D = none → H' D = some (.lst (ws.map V.str)) → Q (.ref D) H'
theorem inst_str : ∀ k : Gd.Kind, inst "str" k = true → k = .str := fun k h => by
  cases k <;> first | rfl | exact absurd h (by decide +kernel)
theorem kindO_str : ∀ o : Option HO, kindO o ≠ .str := fun o h => by
  cases o with
  | none => exact nomatch h
  | some o => cases o <;> exact nomatch h
theorem kind_str {H : Hp} {v : V} (h : inst "str" (kind H v) = true) : ∃ x, v = .str x := by
  have e := inst_str _ h
  cases v with
  | str x => exact ⟨x, rfl⟩
  | ref a => exact absurd e (kindO_str _)
  | _ => exact nomatch e
theorem same_new {H : Hp} {b : Addr} {o : HO} (h : H b = none) : Same H (upd H b o) := fun c u e => by
  rw [upd_ne (ne_of_none e h)]
  exact e
abbrev ssplit_words : Stmt := top 6
theorem scsplit_words : FnScope ["line", "words"] ["line"] (defScope ssplit_words) := ⟨rfl, rfl, rfl, by decide +kernel, rfl, by decide +kernel, by decide +kernel⟩
theorem ok_split {f : Addr} {fd : FuncData} (F : Fun K "split_words" "split_words" ssplit_words f fd) (T : Txt K mg base C_I f_I) : FnG P w K mg base (L2.CX P w) 4 f fd ["line"] (spSplit C_I) := by
  refine okG F scsplit_words (fun vs H Q E h => ?_) (fun cdv A outer s H vs Q E hc hr h => ?_)
  · obtain ⟨v, rfl, _⟩ := h
    rfl
  obtain ⟨v, rfl, hp, sh, qe, q⟩ := h
  refine ⟨_, (pss_cons (ps_if (PW.pt (pw_or (pt_not (pt_val (pe_callB call_isk (by rfl) T.z_isinstance (by decide +kernel) (pa_cons (pv 0) (pa_cons (pe_bltn (v := .ty "str") (by rfl) T.z_str (by decide +kernel) rfl) pa_nil))))) (pw_or1 (pt_cmpR op_in_sign pe_str (pv 0) (by rfl)))))
  (pss_one (ps_raise_value rfl T.e_InvalidLine hr (takes_of rfl rfl rfl rfl) (pa_cons (pv 0) pa_nil))) pss_nil)
 (pss_cons (ps_if (pt_cmpR op_eq (pv 0) pe_str (nomark _))
  (pss_one (ps_ret (pe_lst pa_nil))) pss_nil)
 (pss_cons (ps_set (i := 1) scsplit_words.nd rfl (Or.inl rfl) (pe_split (pv 0) pe_str))
 (pss_cons (ps_if (pt_cmpR op_in_seq pe_str (pv 1) (by rfl))
  (pss_one (ps_raise_value rfl T.e_InvalidLine hr (takes_of rfl rfl rfl rfl) (pa_cons (pv 0) pa_nil))) pss_nil)
 (pss_one (ps_ret (pv 1))))))), ?_⟩
  have z16 := sizeLine_eq
  refine ⟨_, rfl, v, _, rfl, .inr (.inl rfl), hp, _, rfl, ?_⟩
  refine iteB (fun c => ?_) (fun c => ?_)
  · have e : dueV v = none := by
      cases v with
      | str x => exact absurd (show (!inst "str" Kind.str) = true from c) (by decide +kernel)
      | _ => rfl
    exact ⟨_, rfl, _, rfl, fun d hd => qe e d H (fun _ _ h => h) hd⟩
  obtain ⟨x, rfl⟩ := kind_str (by simpa using c)
  have tx := sh x rfl
  have l3 := tx.len
  refine ⟨_, rfl, 10, x, (by decide +kernel), rfl, _, rfl, ?_⟩
  refine iteB (fun c => ?_) (fun c => ?_)
  · have m := of_decide_eq_true c
    obtain ⟨p, r, e⟩ := List.append_of_mem m
    exact ⟨_, rfl, _, rfl, fun d hd => qe (due_feed e) d H (fun _ _ h => h) hd⟩
  have n10 : 10 ∉ x.cps.toList := of_decide_eq_false c
  refine ⟨_, rfl, rfl, _, rfl, ?_⟩
  refine iteB (fun c => ?_) (fun c => ?_)
  · have e : x = Str.ofString "" := by
      have := of_decide_eq_true c
      injection this
    refine ⟨by show 0 ≤ sizeLine; omega, fun p hp => q [] p _ ?_ (same_new hp) hp upd_same⟩
    rw [e]
    decide +kernel
  have ne : x.cps.toList ≠ [] := fun z => by
    refine of_decide_eq_false c (congrArg V.str (str_ext ?_))
    rw [z]
    decide +kernel
  refine ⟨_, rfl, ⟨_, rfl⟩, _, _, rfl, rfl, (by decide +kernel), (by omega), fun p hp => ?_⟩
  rw [show PySem.Txt.split x " " = wds x from split_all x]
  refine ⟨_, rfl, p, _, rfl, .inl (SqL.of upd_same), rfl, ?_, _, rfl, ?_⟩
  · exact List.all_eq_true.mpr fun v hv => by
      obtain ⟨x, _, rfl⟩ := List.mem_map.mp hv
      rfl
  rw [if_neg Bool.false_ne_true]
  have has : inV (.str "") ((wds x).map V.str) = decide ([] ∈ pcs x.cps.toList) := by
    rw [Bool.eq_iff_iff, decide_eq_true_eq]
    unfold inV
    rw [List.any_eq_true]
    constructor
    · rintro ⟨v, hv, e⟩
      obtain ⟨w, hw, rfl⟩ := List.mem_map.mp hv
      obtain ⟨l, hl, rfl⟩ := List.mem_map.mp hw
      have e2 : mk l = "" := eq_of_beq (show (mk l == "") = true from e)
      have : l = [] := by
        have := congrArg (fun z : Str => z.cps.toList) e2
        exact this
      rw [this] at hl
      exact hl
    · intro m
      exact ⟨.str (mk []), List.mem_map.mpr ⟨mk [], List.mem_map.mpr ⟨[], m, rfl⟩, rfl⟩, by decide +kernel⟩
  rw [has]
  refine iteB (fun c => ?_) (fun c => ?_)
  · have m := of_decide_eq_true c
    refine ⟨_, rfl, _, rfl, fun d hd => qe ?_ d _ (same_new hp) hd⟩
    show dueT x = none
    unfold dueT
    rw [if_neg ne, if_pos (.inr m)]
  · have m := of_decide_eq_false c
    refine ⟨_, rfl, q (wds x) p _ ?_ (same_new hp) hp upd_same⟩
    show dueT x = some (wds x)
    unfold dueT
    rw [if_neg ne, if_neg (fun z => z.elim n10 m)]
end
end K3

namespace K3
open PySem L2 Gd
def spDue : Sp := fun vs H Q _ => ∃ v, vs = [v] ∧ Pv H v ∧ Short v ∧ (∀ H', Same H H' → dueV v = none → Q .non H') ∧ ∀ ws D H', dueV v = some ws → Same H H' → H D = none → H' D = some (.lst (ws.map V.str)) → Q (.ref D) H'
theorem d10 (c : Nat) : decide (V.str ⟨#[c]⟩ = V.str (Str.ofString "\n")) = decide (c = 10) := by
  rw [str_eq]
  refine decide_eq_decide.mpr ⟨fun z => ?_, fun z => by rw [z]; decide +kernel⟩
  have z2 : [c] = [10] := z
  injection z2
theorem d32 (c : Nat) : decide (V.str ⟨#[c]⟩ = V.str (Str.ofString " ")) = decide (c = 32) := by
  rw [str_eq]
  refine decide_eq_decide.mpr ⟨fun z => ?_, fun z => by rw [z]; decide +kernel⟩
  have z2 : [c] = [32] := z
  injection z2
/-- the words' list, and the rest as it was -/
structure Wl (H : Hp) (D : Addr) (ws : List Str) (G : Hp) : Prop where
  at_ : G D = some (.lst (ws.map V.str))
  s : Same H G
theorem Wl.put {H G : Hp} {D : Addr} {ws us : List Str} (h : Wl H D ws G) (hD : H D = none) : Wl H D us (upd G D (.lst (us.map V.str))) :=
  ⟨upd_same, fun b o e => by rw [upd_ne (ne_of_none e hD)]; exact h.s b o e⟩
theorem ixN_last {α : Type} {l : List α} {x : α} : ixN (l ++ [x]).length (-1) = some l.length := by
  rw [List.length_append]
  show ixN (l.length + 1) (-1) = some l.length
  unfold ixN
  rw [if_neg (by omega), if_pos (by omega)]
  exact congrArg some (by omega)
theorem atI_last {α : Type} {l : List α} {x : α} : atI (l ++ [x]) (-1) = some x := by
  unfold atI
  rw [ixN_last]
  simp
section
variable {P : Program} {w : World} {K : PySem.W.Frag} {mg : Str → Option Value} {base : Heap} {C_I f_I : Addr}
abbrev s_law_due : Stmt := top 12
theorem sc_law_due : FnScope ["_law_typed", "_law_words", "_law_last", "_law_sign"] ["_law_typed"] (defScope s_law_due) := ⟨rfl, rfl, rfl, by decide +kernel, rfl, by decide +kernel, by decide +kernel⟩
theorem ok_due {f : Addr} {fd : FuncData} (F : Fun K "_law_due" "_law_due" s_law_due f fd) (T : Txt K mg base C_I f_I) : FnG P w K mg base CX0 4 f fd ["_law_typed"] spDue := by
  refine okG F sc_law_due (fun vs H Q E h => ?_) (fun cdv A outer s H vs Q E hc hr h => ?_)
  · obtain ⟨v, rfl, _⟩ := h
    rfl
  obtain ⟨v, rfl, hp, sh, qn, q⟩ := h
  refine ⟨_, (pss_cons (ps_if (pt_not (pt_val (pe_callB call_isk (by rfl) T.z_isinstance (by decide +kernel) (pa_cons (pv 0) (pa_cons (pe_bltn (v := .ty "str") (by rfl) T.z_str (by decide +kernel) rfl) pa_nil)))))
  (pss_one (ps_ret pe_non)) pss_nil)
 (pss_cons (ps_par (i := 1) (j := 2) (by rfl) sc_law_due.nd rfl rfl (by decide) rfl rfl (pa_cons (pe_lst pa_nil) (pa_cons pe_str pa_nil)) (by rfl))
 (pss_cons (ps_for (passes_of rfl) rfl (pi_str (pv 0)) (pg_name (i := 3) sc_law_due.nd rfl (Or.inl rfl))
  (pss_cons (ps_if (PW.pt (pw_or (pt_cmpR op_eq (pv 3) pe_str (nomark _)) (pw_or1 (PW.pt (pw_and (pt_cmpR op_eq (pv 3) pe_str (nomark _)) (pw_and1 (pt_cmpR op_eq (pv 2) pe_str (nomark _))))))))
  (pss_one (ps_ret pe_non)) pss_nil)
 (pss_cons (ps_if (PW.pt (pw_and (pt_cmpR op_ne (pv 3) pe_str (nomark _)) (pw_and1 (pt_cmpR op_eq (pv 2) pe_str (nomark _)))))
  (pss_one (ps_expr (pe_bm PySem.F.plainAttrs_list PySem.F.slot_list_append PySem.F.type_list_append mt_append (pv 1) (pa_cons pe_str pa_nil)))) pss_nil)
 (pss_cons (ps_if (pt_cmpR op_ne (pv 3) pe_str (nomark _))
  (pss_one (ps_asg (pe_op op_add_str (pe_ix ix_list (pv 1) (pe_un un_neg pe_int) (fun _ _ => rfl)) (pv 3)) (pg_sub (pv 1) (pe_un un_neg pe_int) set_list))) pss_nil)
 (pss_one (ps_set (i := 2) sc_law_due.nd rfl (Or.inl rfl) (pv 3)))))))
 (pss_one (ps_ret (pe_ifExp (PW.pt (pw_and (pt_cmpR op_ne (pv 0) pe_str (nomark _)) (pw_and1 (pt_cmpR op_eq (pv 2) pe_str (nomark _))))) pe_non (pv 1))))))), ?_⟩
  have z16 := sizeLine_eq
  refine ⟨_, rfl, v, _, rfl, .inr (.inl rfl), hp, _, rfl, ?_⟩
  refine iteB (fun c => ?_) (fun c => ?_)
  · have e : dueV v = none := by
      cases v with
      | str x => exact absurd (show (!inst "str" Kind.str) = true from c) (by decide +kernel)
      | _ => rfl
    exact qn H (fun _ _ h => h) e
  obtain ⟨x, rfl⟩ := kind_str (by simpa using c)
  have tx := sh x rfl
  have l3 := tx.len
  refine ⟨by show 0 ≤ sizeLine; omega, fun D hD => ⟨_, _, rfl, ?_⟩⟩
  refine ⟨_, rfl, x, rfl, ?_⟩
  refine for_it walk_str (fun i σ H' => ∃ (lc : Nat) (ws : List Str) (o : Option V), σ = [some (.str x), some (.ref D), some (.str ⟨#[lc]⟩), o] ∧ Wl H D ws H' ∧ ws.length ≤ i ∧ Walk (x.cps.toList.take i) ws lc) ⟨32, [], none, rfl, ⟨upd_same, same_new hD⟩, Nat.le_refl _, walk0⟩ (fun _ _ _ _ _ => trivial) ?_ ?_
  · rintro i y σ G _ hi ⟨lc, ws, o, rfl, wl, wn, wk⟩ ⟨e, c, hcc, rfl⟩
    subst e
    have hcl : x.cps.toList[i]? = some c := by rw [Array.getElem?_toList]; exact hcc
    have ex : x.cps.toList = x.cps.toList.take i ++ c :: x.cps.toList.drop (i + 1) := by
      obtain ⟨h1, h2⟩ := List.getElem?_eq_some_iff.mp hcl
      rw [← h2, ← List.drop_eq_getElem_cons h1, List.take_append_drop]
    have nx : x.cps.toList.take (i + 1) = x.cps.toList.take i ++ [c] := by rw [List.take_add_one, hcl]; rfl
    have hi3 : i < 3000 := by
      have := (List.getElem?_eq_some_iff.mp hcl).1
      rw [← len_list] at this
      omega
    refine ⟨_, rfl, rfl, _, rfl, ?_⟩
    rw [d10]
    by_cases c10 : c = 10
    · rw [decide_eq_true c10]
      refine iteT (iteT ?_)
      rw [c10] at ex
      exact qn _ wl.s (due_feed ex)
    rw [decide_eq_false c10]
    refine iteF ⟨_, rfl, rfl, _, rfl, ?_⟩
    rw [d32]
    by_cases c32 : c = 32
    · rw [decide_eq_true c32]
      refine iteT ⟨_, rfl, rfl, _, rfl, ?_⟩
      rw [d32]
      by_cases l32 : lc = 32
      · rw [decide_eq_true l32]
        refine iteT ?_
        rw [c32] at ex
        exact qn _ wl.s (due_space ex wk l32)
      rw [decide_eq_false l32]
      refine iteF ⟨_, rfl, rfl, _, rfl, ?_⟩
      rw [d32, decide_eq_true c32]
      refine iteF (iteF ⟨_, rfl, rfl, _, rfl, ?_⟩)
      rw [d32, decide_eq_true c32]
      refine iteF ⟨_, rfl, c, ws, _, rfl, wl, by omega, ?_⟩
      rw [nx, c32]
      exact walk_space wk l32
    · rw [decide_eq_false c32]
      refine iteF (iteF ⟨_, rfl, rfl, _, rfl, ?_⟩)
      rw [d32, decide_eq_false c32]
      refine iteT ⟨_, rfl, rfl, _, rfl, ?_⟩
      rw [d32]
      by_cases l32 : lc = 32
      · rw [decide_eq_true l32]
        refine iteT ⟨_, rfl, .inl ⟨rfl, _, SqL.of wl.at_⟩, D, _, _, rfl, rfl, wl.at_, (by rw [List.length_map]; omega), ?_⟩
        refine ⟨_, rfl, rfl, _, rfl, ?_⟩
        rw [d32, decide_eq_false c32]
        have e1 : ws.map V.str ++ [V.str (Str.ofString "")] = ws.map V.str ++ [V.str (Str.ofString "")] := rfl
        refine iteT ⟨_, rfl, 1, rfl, D, _, _, _, rfl, rfl, SqL.of upd_same, atI_last, _, rfl, _, _, rfl, rfl, (by show 0 + 1 ≤ sizeLine; omega), _, rfl, 1, rfl, D, _, _, _, rfl, rfl, upd_same, ixN_last, _, rfl, c, ws ++ [mk [c]], _, rfl, ?_, ?_, ?_⟩
        · rw [upd_upd]
          have e2 : (ws.map V.str ++ [V.str (Str.ofString "")]).set (ws.map V.str).length (V.str (Str.ofString "" ++ ⟨#[c]⟩)) = (ws ++ [mk [c]]).map V.str := by
            rw [List.set_append_right _ _ (Nat.le_refl _), Nat.sub_self, List.map_append]
            congr 1
          rw [e2]
          exact wl.put hD
        · rw [List.length_append]
          show ws.length + 1 ≤ i + 1
          omega
        · rw [nx]
          exact walk_first wk l32 c32 c10
      · rw [decide_eq_false l32]
        obtain ⟨us, wd, ew, wl2, wk2⟩ := walk_more wk l32 c32 c10
        refine iteF ⟨_, rfl, rfl, _, rfl, ?_⟩
        rw [d32, decide_eq_false c32]
        have at1 := wl.at_
        have wl3 : wd.length ≤ 3000 := by
          refine Nat.le_trans wl2 ?_
          rw [List.length_take]
          omega
        rw [ew, List.map_append] at at1
        refine iteT ⟨_, rfl, 1, rfl, D, _, _, _, rfl, rfl, SqL.of at1, atI_last, _, rfl, _, _, rfl, rfl, (by show wd.length + 1 ≤ sizeLine; omega), _, rfl, 1, rfl, D, _, _, _, rfl, rfl, at1, ixN_last, _, rfl, c, us ++ [wd ++ mk [c]], _, rfl, ?_, ?_, ?_⟩
        · have e2 : (us.map V.str ++ [V.str wd]).set (us.map V.str).length (V.str (wd ++ ⟨#[c]⟩)) = (us ++ [wd ++ mk [c]]).map V.str := by
            rw [List.set_append_right _ _ (Nat.le_refl _), Nat.sub_self, List.map_append]
            first | done | rfl
          have e3 : us.map V.str ++ [wd].map V.str = us.map V.str ++ [V.str wd] := rfl
          rw [e3, e2]
          exact wl.put hD
        · rw [ew, List.length_append] at wn
          rw [List.length_append]
          show us.length + 1 ≤ i + 1
          have : us.length + 1 ≤ i := wn
          omega
        · rw [nx]
          exact wk2
  · rintro σ G ⟨lc, ws, o, rfl, wl, wn, wk⟩
    have hl : x.cps.size = x.cps.toList.length := Array.length_toList.symm
    rw [hl, List.take_length] at wk
    have du := due_end wk
    have ne : decide (V.str x = V.str (Str.ofString "")) = decide (x.cps.toList = []) := by
      rw [str_eq]
      exact decide_eq_decide.mpr ⟨fun z => by rw [z]; decide +kernel, fun z => by rw [z]; decide +kernel⟩
    refine ⟨_, rfl, rfl, _, rfl, ?_⟩
    rw [ne]
    by_cases xe : x.cps.toList = []
    · rw [decide_eq_true xe]
      rw [if_neg (fun z => z.1 xe)] at du
      exact iteF ⟨_, rfl, q ws D G du wl.s hD wl.at_⟩
    · rw [decide_eq_false xe]
      refine iteT ⟨_, rfl, rfl, _, rfl, ?_⟩
      rw [d32]
      by_cases l32 : lc = 32
      · rw [decide_eq_true l32]
        rw [if_pos ⟨xe, l32⟩] at du
        exact iteT (qn G wl.s du)
      · rw [decide_eq_false l32]
        rw [if_neg (fun z => l32 z.2)] at du
        exact iteF ⟨_, rfl, q ws D G du wl.s hD wl.at_⟩
end
end K3

namespace K3
open PySem L2 Gd
def spCalled : Sp := fun vs H Q _ => ∃ v, vs = [v] ∧ Pv H v ∧ Short v ∧ (∀ D H', dueV v = none → Same H H' → H D = none → H' D = some (.lst [.str (Str.ofString "invalid"), v]) → Q (.ref D) H') ∧
  ∀ ws D a H', dueV v = some ws → Same H H' → H D = none → H a = none → D ≠ a → H' D = some (.lst [.str (Str.ofString "returned"), .ref a]) → H' a = some (.lst (ws.map V.str)) → Q (.ref D) H'
theorem same_free {H H' : Hp} {b : Addr} (s : Same H H') (h : H' b = none) : H b = none := s.free h
section
variable {P : Program} {w : World} {K : PySem.W.Frag} {mg : Str → Option Value} {base : Heap} {C_I f_I : Addr}
abbrev s_law_called : Stmt := top 13
theorem sc_law_called : FnScope ["_law_typed", "e"] ["_law_typed"] (defScope s_law_called) := ⟨rfl, rfl, rfl, by decide +kernel, rfl, by decide +kernel, by decide +kernel⟩
theorem ok_called {f f1 : Addr} {fd fd1 : FuncData} (F : Fun K "_law_called" "_law_called" s_law_called f fd) (T : Txt K mg base C_I f_I)
    (D_split_words : Df P w K mg base (L2.CX P w) 4 "split_words" f1 fd1 ["line"] (spSplit C_I)) : FnG P w K mg base CX0 5 f fd ["_law_typed"] spCalled := by
  refine okG F sc_law_called (fun vs H Q E h => ?_) (fun cdv A outer s H vs Q E hc hr h => ?_)
  · obtain ⟨v, rfl, _⟩ := h
    rfl
  obtain ⟨v, rfl, hp, sh, qn, q⟩ := h
  refine ⟨_, (pss_one (ps_tryG rfl rfl sc_law_called.nd (fun W pn xe tk _ => (pss_one (ps_ret (pe_lst (pa_cons pe_str (pa_cons (pe_d D_split_words hc (hr.mono (by omega)) (by rfl) (fun σ => passAt tk σ) (pa_cons (pv 0) pa_nil)) pa_nil)))))) (HdG.as (i := 1) rfl rfl ⟨rfl, by decide, .inl T.e_InvalidLine.gC⟩ (fun a oe cls d pn hz hf => (pss_one (ps_ret (pe_lst (pa_cons pe_str (pa_cons (pe_by_value T.e_InvalidLine hz hf (pv 1)) pa_nil)))))) (HdG.stop _)))), ?_⟩
  refine ⟨_, rfl, v, rfl, hp, sh, fun e d H' sm hd => ?_, fun ws a H' e sm ha hw => ?_⟩
  · refine ⟨true, T.e_InvalidLine.te, fun _ a ha => ?_, fun z => nomatch z⟩
    refine ⟨_, rfl, rfl, rfl, d, v, rfl, upd_same, by show 2 ≤ sizeLine; decide, fun b hb => ?_⟩
    have s1 := sm.trans (same_new (o := .xd [("value", v)]) hd)
    exact qn b _ e (s1.trans (same_new hb)) (same_free s1 hb) upd_same
  · refine ⟨by show 2 ≤ sizeLine; decide, fun b hb => ?_⟩
    have ne : a ≠ b := fun z => by rw [z, hb] at hw; exact nomatch hw
    exact q ws b a _ e (sm.trans (same_new hb)) (same_free sm hb) ha (fun z => ne z.symm) upd_same (by rw [upd_ne ne]; exact hw)
end
end K3

namespace Gd
open PySem L2
/-- a list of signs == [] -/
theorem signs_nil {K : PySem.W.Frag} {H : Hp} {D D2 : Addr} {bs : List Nat} (h1 : H D = some (.lst (bs.map fun c => V.str ⟨#[c]⟩))) (h2 : H D2 = some (.lst [])) (asc : ∀ c ∈ bs, c < 128) {Q : VK} (q : Q (.bl bs.isEmpty) H) : rEqD K (.ref D) (.ref D2) H Q := by
  have dp : ∀ l : List Nat, DpAll K H (l.map fun c => V.str ⟨#[c]⟩) (l.map fun c => PyData.str ⟨#[c]⟩) := by
    intro l
    induction l with
    | nil => exact .nil
    | cons c l ih => exact .cons (.str _) ih
  have shp : ∀ l : List Nat, (∀ c ∈ l, c < 128) → SeqAt.shaped (.list (l.map fun c => PyData.str ⟨#[c]⟩)) = true := by
    intro l hl
    unfold SeqAt.shaped
    have h1 : ∀ l : List Nat, (∀ c ∈ l, c < 128) → PyData.canLayAll0 (l.map fun c => PyData.str ⟨#[c]⟩) = true := by
      intro l
      induction l with
      | nil => exact fun _ => rfl
      | cons c l ih =>
        intro h
        show (PyData.canLay0 (.str ⟨#[c]⟩) && PyData.canLayAll0 (l.map fun c => PyData.str ⟨#[c]⟩)) = true
        rw [ih fun x hx => h x (List.mem_cons_of_mem _ hx), Bool.and_true]
        show (#[c] : Array Nat).all (· < 0x110000) = true
        have := h c List.mem_cons_self
        simp
        omega
    have h2 : ∀ l : List Nat, PyData.depthAll (l.map fun c => PyData.str ⟨#[c]⟩) = 0 := by
      intro l
      induction l with
      | nil => rfl
      | cons c l ih =>
        show max 0 (PyData.depthAll (l.map fun c => PyData.str ⟨#[c]⟩)) = 0
        rw [ih]
        rfl
    rw [Bool.and_eq_true]
    refine ⟨h1 l hl, decide_eq_true ?_⟩
    show PyData.depthAll (l.map fun c => PyData.str ⟨#[c]⟩) + 1 ≤ 64
    rw [h2]
    decide
  refine ⟨.list (bs.map fun c => PyData.str ⟨#[c]⟩), .list [], .lst (SqL.of h1) (dp bs), .lst (SqL.of h2) .nil, shp bs asc, by decide, ?_⟩
  have eqv : PyData.eqv (.list (bs.map fun c => PyData.str ⟨#[c]⟩)) (.list []) = bs.isEmpty := by
    cases bs <;> rfl
  rw [eqv]
  exact q
/-! ### small letters -/
def low (c : Nat) : Bool := decide (97 ≤ c) && decide (c ≤ 122)
theorem low_fst (c : Nat) : (!decide ((({ cps := #[c] } : Str)).cps.toList < (("a" : String) : Str).cps.toList)) = decide (97 ≤ c) := by
  show (!decide (([c] : List Nat) < [97])) = _
  rw [lt_sign, ← decide_not]
  exact decide_eq_decide.mpr (by omega)
theorem low_snd (c : Nat) : (!decide ((("z" : String) : Str).cps.toList < (({ cps := #[c] } : Str)).cps.toList)) = decide (c ≤ 122) := by
  show (!decide (([122] : List Nat) < [c])) = _
  rw [lt_sign, ← decide_not]
  exact decide_eq_decide.mpr (by omega)
end Gd

namespace Gd
open PySem PySem.Spec PyProof.Rows L2
theorem repS_same {z : Str} {n : Int} (h : n = 1 ∨ z.length = 0) : repS z n = z := by
  refine str_ext ?_
  rw [repS_list]
  rcases h with rfl | h
  · show (List.replicate 1 z.cps.toList).flatten = _
    simp
  · have e : z.cps.toList = [] := by
      rw [← List.length_eq_zero_iff, ← len_list]
      exact h
    rw [e]
    simp
theorem Tx.reps {m : Nat} {x : Str} (t : Tx m x) (n : Int) : Tx (n.toNat * m) (repS x n) := by
  refine ⟨?_, fun c hc => ?_⟩
  · rw [len_list, repS_list, List.length_flatten, List.map_replicate]
    have h1 := sum_le (l := List.replicate n.toNat x.cps.toList.length) (n := m) fun k hk => by
      rw [(List.mem_replicate.mp hk).2, ← len_list]
      exact t.len
    rw [List.length_replicate] at h1
    exact h1
  · rw [repS_list] at hc
    obtain ⟨l, hl, hc⟩ := List.mem_flatten.mp hc
    rw [(List.mem_replicate.mp hl).2] at hc
    exact t.asc c hc
section
variable {X : Cx}
theorem op_repA : OpR X (binaryOp .Mult) (fun x y H Q => ∃ z n, x = .str z ∧ y = .int n ∧ 1 ≤ n ∧ n < 1000000 ∧ z.length * n.toNat ≤ sizeLine ∧ Q (.str (repS z n)) H) := by
  intro pins s σ H x y v u Q I rx ry h
  obtain ⟨z, n, rfl, rfl, h1, h2, hz, q⟩ := h
  by_cases hs : n = 1 ∨ z.length = 0
  · rw [repS_same hs] at q
    obtain ⟨t, rfl⟩ := rx
    obtain ⟨t', rfl⟩ := ry
    have e1 : (n == 1 || z.length == 0) = true := by
      rw [Bool.or_eq_true]
      rcases hs with h | h
      · exact .inl (beq_iff_eq.mpr h)
      · exact .inr (beq_iff_eq.mpr h)
    have hb : ¬ (z.length : Int) > (2 ^ 63 - 1) / n := by
      intro c
      have hs := hz
      rw [sizeLine_eq] at hs
      have h3 : (z.length : Int) * n ≤ 16777216 := by
        have h4 : ((z.length * n.toNat : Nat) : Int) ≤ 16777216 := Int.ofNat_le.mpr hs
        rw [Int.natCast_mul, Int.toNat_of_nonneg (by omega)] at h4
        exact h4
      have h5 : (z.length : Int) ≤ 16777216 := by
        have h6 : (0 : Int) ≤ z.length := by omega
        have h7 : (z.length : Int) * 1 ≤ (z.length : Int) * n := Int.mul_le_mul_of_nonneg_left (by omega) (by omega)
        omega
      have h8 : (2 ^ 63 - 1 : Int) / n ≥ (2 ^ 63 - 1) / 1000000 := by
        have : (2 ^ 63 - 1 : Int) / 1000000 * n ≤ (2 ^ 63 - 1) := by
          have h9 : (2 ^ 63 - 1 : Int) / 1000000 = 9223372036854 := by decide
          rw [h9]
          omega
        exact (Int.le_ediv_iff_mul_le (by omega)).mpr this
      have h10 : (2 ^ 63 - 1 : Int) / 1000000 = 9223372036854 := by decide
      omega
    refine PySem.P.mul_str (by rw [Bool.or_eq_false_iff]; exact ⟨decide_eq_false (by omega), decide_eq_false (by omega)⟩) (fun _ _ => hb) (fun _ _ => ?_) ?_
    · unfold Builtin.Str.tooLong
      exact decide_eq_false (by omega)
    · rw [if_neg (by omega), if_pos e1]
      first
        | exact ⟨.str z, H, I, ⟨t, rfl⟩, q⟩
        | (unfold Made.post; exact ⟨.str z, H, I, ⟨t, rfl⟩, q⟩)
  · refine op_repS pins s σ H _ _ v u Q I rx ry ⟨z, n, rfl, rfl, ?_, h2, fun z => hs (.inr z), hz, q⟩
    have : n ≠ 1 := fun z => hs (.inl z)
    omega
end
end Gd

namespace K3
open PySem L2 Gd
def spLong : Sp := fun vs H Q _ => ∃ p, vs = [.ref p, .str sigs] ∧ BoxAt H p ∧ ∀ H', Kept H H' p → Q (.bl true) H'
theorem pcs_free {l : List Nat} (h : 32 ∉ l) : pcs l = [l] := by
  have : ∀ l : List Nat, 32 ∉ l → cutF l = ([], l) := fun l => by
    refine snoc_ind (P := fun l => 32 ∉ l → cutF l = ([], l)) (fun _ => rfl) (fun l c ih h => ?_) l
    rw [cut_snoc, ih fun z => h (List.mem_append_left _ z)]
    unfold stp
    rw [if_neg fun z => h (List.mem_append_right _ (by rw [z]; exact List.mem_singleton.mpr rfl))]
  unfold pcs
  rw [this l h]
  rfl
/-- one word -/
theorem due_one {x : Str} (h0 : x.cps.toList ≠ []) (h1 : 32 ∉ x.cps.toList) (h2 : 10 ∉ x.cps.toList) : dueT x = some [x] := by
  unfold dueT wds
  rw [if_neg h0, pcs_free h1, if_neg (fun z => z.elim h2 fun z => h0 (List.mem_singleton.mp z).symm)]
  rfl
/-- many words -/
theorem due_many {ws : List Str} (h0 : ws ≠ []) (h : ∀ x ∈ ws, x.cps.toList ≠ [] ∧ 32 ∉ x.cps.toList ∧ 10 ∉ x.cps.toList) : dueT (Txt.join " " ws) = some ws := by
  have e1 : wds (Txt.join " " ws) = ws := by
    rw [← split_all]
    exact TL.split_join (y := " ") (s := 32) (S := []) (by decide +kernel) (by decide +kernel) h0 fun p hp => (h p hp).2.1
  have ne : (Txt.join " " ws).cps.toList ≠ [] := fun z => by
    unfold wds at e1
    rw [z] at e1
    have e2 : ws = [mk []] := e1.symm
    exact (h (mk []) (by rw [e2]; exact List.mem_singleton.mpr rfl)).1 rfl
  unfold dueT
  rw [if_neg ne, if_neg, e1]
  rintro (z | z)
  · rw [join_str] at z
    rcases join_mem " " z with z | ⟨y, hy, z⟩
    · exact absurd z (by decide +kernel)
    · exact (h y hy).2.2 z
  · have : mk [] ∈ ws := by
      rw [← e1]
      exact List.mem_map.mpr ⟨[], z, rfl⟩
    exact (h _ this).1 rfl
theorem dp_strs {K : PySem.W.Frag} {H : Hp} : ∀ ws : List Str, DpAll K H (ws.map V.str) (ws.map PyData.str)
  | [] => .nil
  | x :: ws => .cons (.str x) (dp_strs ws)
theorem lay_strs {n : Nat} : ∀ ws : List Str, (∀ x ∈ ws, Tx n x) → PyData.canLayAll0 (ws.map PyData.str) = true ∧ PyData.depthAll (ws.map PyData.str) = 0
  | [], _ => ⟨rfl, rfl⟩
  | x :: ws, h => by
    obtain ⟨a, b⟩ := lay_strs ws fun y hy => h y (List.mem_cons_of_mem _ hy)
    refine ⟨?_, ?_⟩
    · show (PyData.canLay0 (.str x) && PyData.canLayAll0 (ws.map PyData.str)) = true
      rw [a, Bool.and_true]
      show x.cps.all (· < 0x110000) = true
      rw [Array.all_eq_true_iff_forall_mem]
      intro c hc
      have := (h x List.mem_cons_self).asc c (by simpa using hc)
      exact decide_eq_true (by omega)
    · show max 0 (PyData.depthAll (ws.map PyData.str)) = 0
      rw [b]
      rfl
/-- two lists of texts in a list -/
theorem shp_two {n : Nat} {ws us : List Str} (h : ∀ x ∈ ws, Tx n x) (g : ∀ x ∈ us, Tx n x) : SeqAt.shaped (.list [.list (ws.map PyData.str), .list (us.map PyData.str)]) = true := by
  obtain ⟨a, b⟩ := lay_strs ws h
  obtain ⟨c, d⟩ := lay_strs us g
  unfold SeqAt.shaped
  have e1 : PyData.canLay0 (.list [.list (ws.map PyData.str), .list (us.map PyData.str)]) = true := by
    rw [PyData.canLay0, PyData.canLayAll0, PyData.canLayAll0, PyData.canLayAll0, PyData.canLay0, PyData.canLay0, a, c]
    rfl
  have e2 : PyData.depth (.list [.list (ws.map PyData.str), .list (us.map PyData.str)]) ≤ 64 := by
    show max (PyData.depthAll (ws.map PyData.str) + 1) (max (PyData.depthAll (us.map PyData.str) + 1) 0) + 1 ≤ 64
    rw [b, d]
    decide
  rw [e1, decide_eq_true e2]
  rfl
section
variable {P : Program} {w : World} {K : PySem.W.Frag} {mg : Str → Option Value} {base : Heap} {C_I f_I : Addr}
abbrev s_law_long_right : Stmt := top 14
theorem sc_law_long_right : FnScope ["_law_box_here", "_law_signs_here", "_law_one", "_law_found"] ["_law_box_here", "_law_signs_here"] (defScope s_law_long_right) := ⟨rfl, rfl, rfl, by decide +kernel, rfl, by decide +kernel, by decide +kernel⟩
theorem ok_long {f f1 f2 f3 : Addr} {fd fd1 fd2 fd3 : FuncData} (F : Fun K "_law_long_right" "_law_long_right" s_law_long_right f fd) (T : Txt K mg base C_I f_I)
    (D__law_take : Df P w K mg base CX0 1 "_law_take" f1 fd1 ["_law_box_here", "_law_size"] spTake)
    (D_split_words : Df P w K mg base (L2.CX P w) 4 "split_words" f2 fd2 ["line"] (spSplit C_I))
    (D_split_words_0_line : Dk P w K mg base (L2.CX P w) 4 "split_words" f3 fd3 ["line"] (spSplit C_I) 0 ["line"] (fun _ zs => zs)) : FnG P w K mg base CX0 5 f fd ["_law_box_here", "_law_signs_here"] spLong := by
  refine okG F sc_law_long_right (fun vs H Q E h => ?_) (fun cdv A outer s H vs Q E hc hr h => ?_)
  · obtain ⟨p, rfl, _⟩ := h
    rfl
  obtain ⟨p, rfl, hb, q⟩ := h
  refine ⟨_, (pss_cons (ps_set (i := 2) sc_law_long_right.nd rfl (Or.inl rfl) (pe_ix ix_str (pv 1) (pe_d D__law_take hc (hr.mono (by omega)) (by rfl) (fun _ => passN) (pa_cons (pv 0) (pa_cons (pe_callB call_len_str (by rfl) T.z_len (by decide +kernel) (pa_cons (pv 1) pa_nil)) pa_nil))) (fun _ _ => rfl)))
 (pss_cons (ps_set (i := 3) sc_law_long_right.nd rfl (Or.inl rfl) (pe_lst (pa_cons (pe_d D_split_words hc (hr.mono (by omega)) (by rfl) (fun _ => passM) (pa_cons (pe_join pe_str (pe_op op_rep (pe_lst (pa_cons (pv 2) pa_nil)) pe_int)) pa_nil)) (pa_cons (pe_dk0 D_split_words_0_line hc (hr.mono (by omega)) (by rfl) (fun _ => passM) (pk_cons (pe_op op_repS (pv 2) pe_int) pk_nil)) pa_nil))))
 (pss_one (ps_ret (pe_cmpR (op_eqD hr.units) (pv 3) (pe_lst (pa_cons (pe_op op_rep (pe_lst (pa_cons (pv 2) pa_nil)) pe_int) (pa_cons (pe_lst (pa_cons (pe_op op_repS (pv 2) pe_int) pa_nil)) pa_nil))) (nomark _)))))), ?_⟩
  have z16 := sizeLine_eq
  refine ⟨_, rfl, _, rfl, _, rfl, _, rfl, (by rw [sigs_len]; omega), p, _, rfl, hb, (by rw [sigs_len]; decide), (by rw [sigs_len]; decide), fun d H1 d0 d1 t1 => ?_⟩
  have dl : d.toNat < sigs.cps.toList.length := by
    have := sigs_len
    rw [len_list] at this
    rw [sigs_len] at d1
    omega
  obtain ⟨c, hc1⟩ : ∃ c, sigs.cps.toList[d.toNat]? = some c := ⟨_, List.getElem?_eq_getElem dl⟩
  have hcm := sigs_ok c (List.mem_of_getElem? hc1)
  have hca := sigs_tx.asc c (List.mem_of_getElem? hc1)
  have at1 : atI sigs.cps.toList d = some c := by
    have := atI_nat (xs := sigs.cps.toList) (j := d.toNat) hc1
    rwa [Int.toNat_of_nonneg d0] at this
  refine ⟨_, _, c, rfl, rfl, (by rw [sigs_len]; omega), at1, ?_⟩
  have one1 : Tx 1 (⟨#[c]⟩ : Str) := sigs_tx.sign (List.mem_of_getElem? hc1)
  have k1 := t1.kept
  obtain ⟨ys, hys⟩ : ∃ ys : List Str, ys = List.replicate 1000 ⟨#[c]⟩ := ⟨_, rfl⟩
  have yl : ys.length = 1000 := by rw [hys, List.length_replicate]
  have ym : ∀ x ∈ ys, x = ⟨#[c]⟩ := fun x hx => by rw [hys] at hx; exact (List.mem_replicate.mp hx).2
  have e1 : (List.replicate (1000 : Int).toNat [V.str ⟨#[c]⟩]).flatten = ys.map V.str := by
    rw [hys, List.map_replicate]
    exact List.flatten_replicate_singleton
  clear hys
  have tR : ∀ x ∈ ys, Tx 1 x := fun x hx => by rw [ym x hx]; exact one1
  obtain ⟨jt, hjt⟩ : ∃ t, t = Txt.join " " ys := ⟨_, rfl⟩
  have ok1 : (⟨#[c]⟩ : Str).cps.toList ≠ [] ∧ 32 ∉ (⟨#[c]⟩ : Str).cps.toList ∧ 10 ∉ (⟨#[c]⟩ : Str).cps.toList :=
    ⟨(fun z => nomatch (show [c] = [] from z)), fun z => hcm.1 (List.mem_singleton.mp z).symm, fun z => hcm.2 (List.mem_singleton.mp z).symm⟩
  have many : dueV (.str jt) = some ys := by
    rw [hjt]
    exact due_many (fun z => by rw [z] at yl; exact nomatch yl) fun x hx => by rw [ym x hx]; exact ok1
  have tJ : Tx 3000 jt := by
    rw [hjt]
    exact (Tx.join (k := 1000) (Tx.of (n := 1) (x := " ") (by decide +kernel)) tR (by omega)).mono (by decide)
  obtain ⟨w2, hw2⟩ : ∃ t, t = repS (⟨#[c]⟩ : Str) 2000 := ⟨_, rfl⟩
  have tW : Tx 3000 w2 := by
    rw [hw2]
    exact (Tx.reps one1 2000).mono (by decide)
  have long : dueV (.str w2) = some [w2] := by
    have e : w2.cps.toList = List.replicate 2000 c := by
      rw [hw2, repS_list]
      exact List.flatten_replicate_singleton
    refine due_one ?_ ?_ ?_
    · rw [e]
      intro z
      exact absurd (congrArg List.length z) (by rw [List.length_replicate]; decide)
    · rw [e]
      exact fun z => hcm.1 (List.mem_replicate.mp z).2.symm
    · rw [e]
      exact fun z => hcm.2 (List.mem_replicate.mp z).2.symm
  refine ⟨⟨_, rfl⟩, _, rfl, (by show 1 ≤ sizeLine; omega), fun l1 h1 => ?_⟩
  refine ⟨l1, 1000, _, rfl, rfl, upd_same, by decide, by decide, (by show 1 * 1000 ≤ sizeLine; omega), fun l2 h2 => ?_⟩
  rw [e1]
  have k2 := k1.new (o := .lst [V.str ⟨#[c]⟩]) h1
  have k3 := k2.new (o := .lst (ys.map V.str)) h2
  refine ⟨_, l2, ys, rfl, rfl, .inl (SqL.of upd_same), ?_, ?_⟩
  · have := sum_le (l := ys.map (·.length)) (n := 1) fun k hk => by
      obtain ⟨x, hx, rfl⟩ := List.mem_map.mp hk
      exact (tR x hx).len
    rw [List.length_map] at this
    show (ys.map (·.length)).sum + ys.length * 1 ≤ 16777216
    omega
  rw [show Txt.join (Str.ofString " ") ys = jt from hjt.symm]
  refine ⟨.str jt, rfl, (fun z => nomatch z), (fun x e => by cases e; exact tJ), (fun e => by rw [many] at e; exact nomatch e), fun ws D1 H3 e s3 hD1 g1 => ?_⟩
  rw [many] at e
  cases Option.some.inj e
  have ocl : (⟨#[c]⟩ : Str).length = 1 := rfl
  refine ⟨_, rfl, _, _, rfl, rfl, by decide, by decide, (by rw [ocl]; decide), (by rw [ocl]; show 1 * 2000 ≤ sizeLine; omega), ?_⟩
  rw [show repS (⟨#[c]⟩ : Str) 2000 = w2 from hw2.symm]
  refine ⟨rfl, rfl, .str w2, rfl, (fun z => nomatch z), (fun x e => by cases e; exact tW), (fun e => by rw [long] at e; exact nomatch e), fun ws D2 H4 e s4 hD2 g2 => ?_⟩
  rw [long] at e
  cases Option.some.inj e
  refine ⟨by show 2 ≤ sizeLine; omega, fun D3 h5 => ?_⟩
  have k4 := (k3.same s3).same s4
  have k5 := k4.new (o := .lst [.ref D1, .ref D2]) h5
  refine ⟨_, rfl, _, rfl, (by show 1 ≤ sizeLine; omega), fun l6 h6 => ?_⟩
  have k6 := k5.new (o := .lst [V.str ⟨#[c]⟩]) h6
  refine ⟨l6, 1000, _, rfl, rfl, upd_same, by decide, by decide, (by show 1 * 1000 ≤ sizeLine; omega), fun l7 h7 => ?_⟩
  rw [e1]
  have k7 := k6.new (o := .lst (ys.map V.str)) h7
  refine ⟨_, rfl, _, _, rfl, rfl, by decide, by decide, (by rw [ocl]; decide), (by rw [ocl]; show 1 * 2000 ≤ sizeLine; omega), ?_⟩
  rw [show repS (⟨#[c]⟩ : Str) 2000 = w2 from hw2.symm]
  refine ⟨by show 1 ≤ sizeLine; omega, fun l8 h8 => ⟨by show 2 ≤ sizeLine; omega, fun l9 h9 => ?_⟩⟩
  have k8 := k7.new (o := .lst [V.str w2]) h8
  have k9 := k8.new (o := .lst [V.ref l7, .ref l8]) h9
  have s9 := same_new (o := .lst [V.ref l7, .ref l8]) h9
  have s8 := (same_new (o := .lst [V.str w2]) h8).trans s9
  have s7 := (same_new (o := .lst (ys.map V.str)) h7).trans s8
  have s6 := (same_new (o := .lst [V.str ⟨#[c]⟩]) h6).trans s7
  have s5 := (same_new (o := .lst [.ref D1, .ref D2]) h5).trans s6
  have shp : SeqAt.shaped (.list [.list (ys.map PyData.str), .list ([w2].map PyData.str)]) = true := shp_two (n := 3000) (fun x hx => (tR x hx).mono (by decide)) fun x hx => by rw [List.mem_singleton.mp hx]; exact tW
  refine ⟨.list [.list (ys.map PyData.str), .list ([w2].map PyData.str)], .list [.list (ys.map PyData.str), .list ([w2].map PyData.str)],
    .lst (SqL.of (s6 _ _ upd_same)) (.cons (.lst (SqL.of (s5 _ _ (s4 _ _ g1))) (dp_strs ys)) (.cons (.lst (SqL.of (s5 _ _ g2)) (dp_strs [w2])) .nil)),
    .lst (SqL.of upd_same) (.cons (.lst (SqL.of (s8 _ _ upd_same)) (dp_strs ys)) (.cons (.lst (SqL.of (s9 _ _ upd_same)) (dp_strs [w2])) .nil)), shp, shp, ?_⟩
  rw [PySem.SeqAt.eqv_refl _ (SeqAt.canLay_of_shaped shp)]
  exact q _ k9
end
end K3

namespace Gd
open PySem PySem.Spec PyProof.Rows L2
/-! ### dict(a list of pairs) whose keys are tuples -/
def mergeT (kvs more : List (List Key × V)) : List (List Key × V) := more.foldl (fun acc kv => putK acc kv.1 kv.2) kvs
theorem mergeT_len : ∀ (more kvs : List (List Key × V)), (mergeT kvs more).length ≤ kvs.length + more.length
  | [], kvs => Nat.le_refl _
  | p :: r, kvs => by
    have h1 := mergeT_len r (putK kvs p.1 p.2)
    have h2 := length_putK kvs p.1 p.2
    show (mergeT (putK kvs p.1 p.2) r).length ≤ _
    rw [List.length_cons]
    omega
theorem KT.merge {H : Hp} : ∀ {more : List (List Key × V)} {rs : List (List Key × Addr × Value)} {kvs : List (List Key × V)} {vs : List (List Key × Addr × Value)}, KT H more rs → KT H kvs vs → KT H (mergeT kvs more) (storedAllH vs rs)
  | _, _, _, _, .nil, r => r
  | _, _, kvs, vs, .cons (a := p) (b := q) h t, r => by
    obtain ⟨h1, h2, h3⟩ := h
    have e : KT H (putK kvs p.1 p.2) (storedH vs q.1 q.2.1 q.2.2) := by
      rw [← h1]
      exact r.put p.1 h2 h3
    show KT H (mergeT (putK kvs p.1 p.2) _) (storedAllH (storedH vs q.1 q.2.1 q.2.2) _)
    exact KT.merge t e
section
variable {X : Cx} {pins : List (Addr × Obj)} {σ : L2.St} {H : Hp} {s : Shared}
/-- a pair (key, value) at p, its key a tuple -/
abbrev PairT (K : PySem.W.Frag) (H : Hp) (p : Addr) (kv : List Key × V) : Prop := ∃ b, SqT K H p [.ref b, kv.2] ∧ H b = some (.tup (kv.1.map kV))
theorem pairsT_of (I : Inv X pins σ H s) : ∀ {ps : List Addr} {kvs : List (List Key × V)}, Paired (PairT X.K H) ps kvs →
    ∃ rs : List (List Key × Addr × Value), KT H kvs rs ∧ rs.length = ps.length ∧ ∀ (j : Nat) (q : List Key × Addr × Value), rs[j]? = some q → ∃ b : Addr, ps[j]? = some b ∧ IsTup s.heap b #[.ref q.2.1, q.2.2]
  | _, _, .nil => ⟨[], .nil, rfl, fun j q e => nomatch (show (none : Option (List Key × Addr × Value)) = some q from by simpa using e)⟩
  | _, _, .cons (a := p) (b := kv) ⟨b, h, hb⟩ t => by
    obtain ⟨rs, r, hl, hp⟩ := pairsT_of I t
    obtain ⟨its, rv, ht, _⟩ := I.tuple h
    obtain ⟨u, y, ei, ru, ry⟩ := vals2 rv
    subst ei
    cases (show u = Value.ref b from ru)
    refine ⟨(kv.1, b, y) :: rs, .cons ⟨rfl, hb, ry⟩ r, by rw [List.length_cons, List.length_cons, hl], fun j q e => ?_⟩
    cases j with
    | zero =>
      cases Option.some.inj e
      exact ⟨p, rfl, ht⟩
    | succ j => exact hp j q e
theorem call_dictT (hc : X.calm = true) (hu : X.A.units + 2 < cLine) : CallR X (.type "dict") (fun xs H Q => ∃ (a : Addr) (ps : List Addr) (kvs : List (List Key × V)), xs = [.ref a] ∧ SqL X.K H a (ps.map V.ref) ∧ Paired (PairT X.K H) ps kvs ∧
    ∀ p, H p = none → Q (.ref p) (upd H p (.dT (mergeT [] kvs)))) := by
  intro pins s σ H xs us Q I r q
  obtain ⟨a, ps, kvs, rfl, hq, hp, q⟩ := q
  obtain ⟨u, rfl, rx⟩ := vals1 r
  cases rx
  obtain ⟨its, rv, pl, hz⟩ := I.list hq
  have ei := refs_at rv
  subst ei
  rw [List.length_map] at hz
  obtain ⟨rs, rel, hl, hpr⟩ := pairsT_of I hp
  obtain ⟨o, n, ho, hcl, hd, hdat⟩ := pl
  have items : PairItems s.heap (ps.map Value.ref).toArray (fun j => ps.getD j 0) (rs.map fun q => (Value.ref q.2.1, q.2.2)) := by
    refine ⟨by simp [hl], fun j k v e => ?_⟩
    rw [List.getElem?_map] at e
    cases e1 : rs[j]? with
    | none => rw [e1] at e; exact nomatch e
    | some q =>
      rw [e1] at e
      cases Option.some.inj e
      obtain ⟨b, e2, e3⟩ := hpr j q e1
      have g : ps.getD j 0 = b := by rw [List.getD_eq_getElem?_getD, e2]; rfl
      refine ⟨by simp [e2, g], .inl ?_⟩
      show s.heap.IsTuple (ps.getD j 0) _
      rw [g]
      obtain ⟨ob, h1, h2, n', h3⟩ := e3
      exact ⟨ob, h1, h2, n', h3⟩
  refine call_dict_pairsH (knd := tupleKind (mixKind X.prog X.w)) (ps := rs) (PairArg.list a _ _ _) (I.ok.hd hc) hu ⟨⟨o, n, ho, hcl, hd, hdat⟩, items⟩ ⟨by rw [List.length_map], fun i key v e => ?_⟩ (fun h' k x hx => ?_) (by rw [List.length_map, hl]; exact hz) fun h' tk hd' k => ?_
  · have e : (rs.map fun q => (Value.ref q.2.1, q.2.2))[i]? = some (key, v) := e
    rw [List.getElem?_map] at e
    cases e1 : rs[i]? with
    | none => rw [e1] at e; exact nomatch e
    | some q =>
      rw [e1] at e
      cases Option.some.inj e
      exact ⟨q.1, q.2.1, rfl, rfl⟩
  · have all : ∀ {l : List (List Key × V)} {m : List (List Key × Addr × Value)}, KT H l m → ∀ x ∈ m, H x.2.1 = some (.tup (x.1.map kV)) := by
      intro l m q
      induction q with
      | nil => intro x hx; exact nomatch hx
      | cons h t ih =>
        intro x hx
        rcases List.mem_cons.mp hx with rfl | hx
        · rw [← h.1]; exact h.2.1
        · exact ih x hx
    obtain ⟨ob, its, n', h1, h2⟩ := key_of I.hok (all rel x hx)
    exact ⟨ob, its, n', k _ _ (Nat.ne_of_lt (Heap.lt_size h1)) (fun z => nomatch z) h1, h2⟩
  · have hm : (s.heap.objs.size == sysModules) = false := beq_eq_false_iff_ne.mpr (Nat.ne_of_gt I.big)
    have hlen : (mergeT [] kvs).length ≤ sizeLine := by
      refine Nat.le_trans (mergeT_len kvs []) ?_
      rw [List.length_nil, Nat.zero_add, Paired.length rel, hl]
      exact hz
    have hn : H s.heap.objs.size = none := I.hok.fresh (Nat.le_refl _)
    obtain ⟨ob, es, ep, g1, g2, g3, g4, _, g5⟩ := hd'
    refine ⟨.ref s.heap.objs.size, upd H s.heap.objs.size (.dT (mergeT [] kvs)), I.laid (t' := tk) (fun b o e => k b o (fun z => nomatch z) e) (Nat.le_refl _) ?_, rfl, q _ hn⟩
    exact ⟨hlen, hm, _, (KT.merge rel .nil).keeps fun b ys e => by rw [upd_ne (ne_of_none e hn)]; exact e, ob, es, ep, g1, g2, g3, g4, g5⟩
end
theorem valV_mem {α : Type} [DecidableEq α] {kvs : List (α × V)} {k : α} {v : V} (h : valV kvs k = some v) : (k, v) ∈ kvs := by
  unfold valV at h
  cases e : kvs.find? fun kv => decide (kv.1 = k) with
  | none => rw [e] at h; exact nomatch h
  | some q =>
    rw [e] at h
    have h : q.2 = v := Option.some.inj h
    have m := List.mem_of_find?_eq_some e
    have e0 := List.find?_some e
    have e1 : q.1 = k := of_decide_eq_true e0
    rw [← h, ← e1]
    exact m
theorem valV_has {α : Type} [DecidableEq α] {kvs : List (α × V)} {k : α} {v : V} (h : (k, v) ∈ kvs) : ∃ v', valV kvs k = some v' ∧ (k, v') ∈ kvs := by
  cases e : valV kvs k with
  | some v' => exact ⟨v', rfl, valV_mem e⟩
  | none =>
    unfold valV at e
    have e := Option.map_eq_none_iff.mp e
    have z := List.find?_eq_none.mp e (k, v) h
    exact absurd (decide_eq_true rfl) z
/-- a dict with tuples as keys, read while it is locked -/
theorem DGet.tz {H : Hp} {a b : Addr} {o : Obj} {kvs : List (List Key × V)} {k : List Key} (e : H a = some (.frz o (.dT kvs))) (eb : H b = some (.tup (k.map kV))) : DGet H a (.ref b) (valV kvs k) := .inr ⟨kvs, k, b, .inr ⟨o, e⟩, rfl, eb, rfl⟩
theorem hu2_of {k : Nat} {A : Around} (r : Room k A) : A.units + 2 < cLine := by
  have := room100 r
  omega
end Gd

namespace K3
open PySem L2 Gd
theorem keepO {G : Hp} {q d : Addr} {o u : HO} (h : G q = some o) (hd : G d = none) : upd G d u q = some o := by
  rw [upd_ne (ne_of_none h hd)]
  exact h
/-- a small value that is no object -/
def Sc : V → Prop
  | .non => True
  | .bl _ => True
  | .int i => i.natAbs < 2 ^ 200
  | .str x => Tx 3000 x
  | _ => False
/-- a small flat object -/
def FlatO (n : Nat) (o : HO) : Prop :=
  (∃ xs, o = .lst xs ∧ xs.length ≤ n ∧ ∀ v ∈ xs, Sc v) ∨ (∃ xs, o = .tup xs ∧ xs.length ≤ n ∧ ∀ v ∈ xs, Sc v) ∨ o = .dK [] ∨ o = .dK [(Sum.inr "more", .int 1)]
def Fl (n : Nat) (H : Hp) (v : V) : Prop := Sc v ∨ ∃ a o, v = .ref a ∧ H a = some o ∧ FlatO n o
theorem Sc.kd {H : Hp} {v : V} (h : Sc v) : kind H v = .non ∨ kind H v = .bl ∨ kind H v = .int ∨ kind H v = .str := by
  cases v with
  | non => exact .inl rfl
  | bl b => exact .inr (.inl rfl)
  | int i => exact .inr (.inr (.inl rfl))
  | str x => exact .inr (.inr (.inr rfl))
  | _ => exact h.elim
theorem FlatO.mono {n m : Nat} {o : HO} (h : n ≤ m) : FlatO n o → FlatO m o
  | .inl ⟨xs, e, l, f⟩ => .inl ⟨xs, e, Nat.le_trans l h, f⟩
  | .inr (.inl ⟨xs, e, l, f⟩) => .inr (.inl ⟨xs, e, Nat.le_trans l h, f⟩)
  | .inr (.inr h) => .inr (.inr h)
theorem Fl.pv {n : Nat} {H : Hp} {v : V} : Fl n H v → Pv H v
  | .inl h => by
    cases v <;> first | exact h.elim | (intro z; exact nomatch z)
  | .inr ⟨a, o, e, h, f⟩ => by
    subst e
    show kindO (H a) ≠ .odd
    rw [h]
    rcases f with ⟨xs, rfl, _⟩ | ⟨xs, rfl, _⟩ | rfl | rfl <;> (intro z; exact nomatch z)
theorem Fl.mono {n m : Nat} {H : Hp} {v : V} (h : n ≤ m) : Fl n H v → Fl m H v
  | .inl q => .inl q
  | .inr ⟨a, o, e, q, f⟩ => .inr ⟨a, o, e, q, f.mono h⟩
theorem Fl.same {n : Nat} {H H' : Hp} {v : V} (s : Same H H') : Fl n H v → Fl n H' v
  | .inl q => .inl q
  | .inr ⟨a, o, e, q, f⟩ => .inr ⟨a, o, e, s _ _ q, f⟩
/-! data -/
theorem Sc.da {K : PySem.W.Frag} {H : Hp} {v : V} (h : Sc v) : ∃ d, Da K H v d ∧ Ok1 d ∧ wid d ≤ 30002 ∧ d.depth = 0 := by
  cases v with
  | non => exact ⟨_, .non, trivial, (by show 4 ≤ 30002; decide), rfl⟩
  | bl b => exact ⟨_, .bl b, trivial, (by show 5 ≤ 30002; decide), rfl⟩
  | int i =>
    have h1 : i.natAbs.log2 < 200 := by
      rcases Nat.eq_zero_or_pos i.natAbs with e | e
      · rw [e]; decide
      · exact (Nat.log2_lt (Nat.pos_iff_ne_zero.mp e)).mpr h
    exact ⟨_, .int i, Nat.lt_trans h1 (by decide), (by show i.natAbs.log2 + 3 ≤ 30002; omega), rfl⟩
  | str x =>
    have t : Tx 3000 x := h
    exact ⟨_, .str x, t.big, (by show 10 * x.length + 2 ≤ 30002; have := t.len; omega), rfl⟩
  | _ => exact h.elim
theorem sc_all {K : PySem.W.Frag} {H : Hp} : ∀ {xs : List V}, (∀ v ∈ xs, Sc v) → ∃ ds, DaL K H xs ds ∧ OkL ds ∧ widL ds ≤ xs.length * 30004 ∧ PyData.depthAll ds = 0
  | [], _ => ⟨[], .nil, trivial, by decide, rfl⟩
  | v :: xs, h => by
    obtain ⟨d, h1, h2, h3, h4⟩ := (h v List.mem_cons_self).da (K := K) (H := H)
    obtain ⟨ds, g1, g2, g3, g4⟩ := sc_all (K := K) (H := H) (xs := xs) fun x hx => h x (List.mem_cons_of_mem _ hx)
    refine ⟨d :: ds, .cons h1 g1, ⟨h2, g2⟩, ?_, ?_⟩
    · show wid d + 2 + widL ds ≤ (xs.length + 1) * 30004
      omega
    · show max d.depth (PyData.depthAll ds) = 0
      rw [h4, g4]
      rfl
theorem Fl.da {K : PySem.W.Frag} {n : Nat} {H : Hp} {v : V} (hn : n ≤ 10) : Fl n H v → ∃ d, Da K H v d ∧ Ok1 d ∧ wid d ≤ 400000 ∧ d.depth ≤ 1
  | .inl h => by
    obtain ⟨d, h1, h2, h3, h4⟩ := h.da (K := K) (H := H)
    exact ⟨d, h1, h2, by omega, by omega⟩
  | .inr ⟨a, o, e, h, f⟩ => by
    subst e
    rcases f with ⟨xs, rfl, l, s⟩ | ⟨xs, rfl, l, s⟩ | rfl | rfl
    · obtain ⟨ds, g1, g2, g3, g4⟩ := sc_all (K := K) (H := H) s
      have : xs.length * 30004 ≤ 10 * 30004 := Nat.mul_le_mul_right _ (by omega)
      exact ⟨.list ds, .lst h g1, g2, (by show widL ds + 2 ≤ 400000; omega), (by show PyData.depthAll ds + 1 ≤ 1; omega)⟩
    · obtain ⟨ds, g1, g2, g3, g4⟩ := sc_all (K := K) (H := H) s
      have : xs.length * 30004 ≤ 10 * 30004 := Nat.mul_le_mul_right _ (by omega)
      exact ⟨.tuple ds, .tup (SqT.of h) g1, g2, (by show widL ds + 3 ≤ 400000; omega), (by show PyData.depthAll ds + 1 ≤ 1; omega)⟩
    · exact ⟨_, .dct h .nil, trivial, by decide, by decide⟩
    · refine ⟨_, .dct h (.cons (.int 1) .nil), ?_, ?_, ?_⟩
      · exact ⟨(Tx.of (n := 10) (by decide +kernel) : Tx 10 (("more" : String) : Str)).big, (by show (1 : Int).natAbs.log2 < 1920; decide), trivial⟩
      · decide +kernel
      · decide +kernel
/-- all but v's own object is as it was -/
def But (H H' : Hp) (v : V) : Prop := ∀ q o, V.ref q ≠ v → H q = some o → H' q = some o
theorem Fl.short {n : Nat} {H : Hp} {v : V} : Fl n H v → Short v
  | .inl h => fun x e => by
    subst e
    exact (show Tx 3000 x from h).mono (by decide)
  | .inr ⟨a, o, e, _⟩ => fun x e2 => by
    rw [e] at e2
    exact nomatch e2
/-! ### where an object may stand -/
theorem Fl.ne {n : Nat} {H : Hp} {v : V} {q : Addr} (h : Fl n H v) (hq : H q = none) : V.ref q ≠ v := by
  rcases h with h | ⟨a, o, rfl, h, _⟩
  · rintro rfl
    exact h
  · intro z
    have : q = a := by injection z
    rw [this, h] at hq
    exact nomatch hq
theorem Fl.kept {n : Nat} {H H' : Hp} {p : Addr} {v : V} (h : Fl n H v) (hp : V.ref p ≠ v) (k : Kept H H' p) : Fl n H' v := by
  rcases h with h | ⟨a, o, rfl, h, f⟩
  · exact .inl h
  · exact .inr ⟨a, o, rfl, k.2 a o (fun z => hp (by rw [z])) h, f⟩
theorem Fl.but {n : Nat} {H H' : Hp} {v u : V} (h : Fl n H v) (hp : ∀ a, v = .ref a → v ≠ u) (k : But H H' u) : Fl n H' v := by
  rcases h with h | ⟨a, o, rfl, h, f⟩
  · exact .inl h
  · exact .inr ⟨a, o, rfl, k a o (hp a rfl) h, f⟩
/-- the cell's heap goes on, its pool stands at p -/
structure Pl (Hs : Hp) (p : Addr) (H : Hp) : Prop where
  f : Hs p = none
  s : Same Hs H
  b : BoxAt H p
theorem Pl.kept {Hs H H' : Hp} {p : Addr} (h : Pl Hs p H) (k : Kept H H' p) : Pl Hs p H' :=
  ⟨h.f, fun q o hq => k.2 q o (fun z => by rw [z, h.f] at hq; exact nomatch hq) (h.s q o hq), k.1⟩
theorem Pl.same {Hs H H' : Hp} {p : Addr} (h : Pl Hs p H) (k : Same H H') : Pl Hs p H' := h.kept ((Kept.refl h.b).same k)
theorem Pl.but {Hs H H' : Hp} {p : Addr} {v : V} (h : Pl Hs p H) (hp : V.ref p ≠ v) (hs : ∀ q o, Hs q = some o → V.ref q ≠ v) (k : But H H' v) : Pl Hs p H' := by
  refine ⟨h.f, fun q o hq => k q o (hs q o hq) (h.s q o hq), ?_⟩
  obtain ⟨a, b, c, e, r⟩ := h.b
  exact ⟨a, b, c, k p _ hp e, r⟩
/-! ### the data of the three kinds of lists -/
theorem three_da {K : PySem.W.Frag} {H : Hp} {x y z : V} (hx : Fl 1 H x) (hy : Fl 1 H y) (hz : Fl 1 H z) :
    ∃ d, (∀ H' q, Same H H' → H' q = some (.lst [x, y, z]) → Da K H' (.ref q) d) ∧ Ok1 d ∧ wid d ≤ sizeLine ∧ d.depth ≤ 64 := by
  obtain ⟨a, a1, a2, a3, a4⟩ := hx.da (K := K) (by decide)
  obtain ⟨b, b1, b2, b3, b4⟩ := hy.da (K := K) (by decide)
  obtain ⟨c, c1, c2, c3, c4⟩ := hz.da (K := K) (by decide)
  refine ⟨.list [a, b, c], fun H' q s h => .lst h (.cons (a1.same s) (.cons (b1.same s) (.cons (c1.same s) .nil))), ⟨a2, b2, c2, trivial⟩, ?_, ?_⟩
  · have := sizeLine_eq
    show (wid a + 2 + (wid b + 2 + (wid c + 2 + 0))) + 2 ≤ sizeLine
    omega
  · show max a.depth (max b.depth (max c.depth 0)) + 1 ≤ 64
    omega
theorem pair_da {K : PySem.W.Frag} {n : Nat} {H : Hp} {g : Str} {v : V} (hn : n ≤ 10) (hg : Tx 10 g) (hv : Fl n H v) :
    ∃ d, (∀ q, H q = some (.lst [.str g, v]) → Da K H (.ref q) d) ∧ Ok1 d ∧ wid d ≤ sizeLine ∧ d.depth ≤ 64 := by
  obtain ⟨a, a1, a2, a3, a4⟩ := hv.da (K := K) hn
  refine ⟨.list [.str g, a], fun q h => .lst h (.cons (.str g) (.cons a1 .nil)), ⟨hg.big, a2, trivial⟩, ?_, ?_⟩
  · have := sizeLine_eq
    have := hg.len
    show ((10 * g.length + 2) + 2 + (wid a + 2 + 0)) + 2 ≤ sizeLine
    omega
  · show max 0 (max a.depth 0) + 1 ≤ 64
    omega
theorem two_da {K : PySem.W.Frag} {x y : V} (hx : Sc x) (hy : Sc y) :
    ∃ d, (∀ H q, H q = some (.lst [x, y]) → Da K H (.ref q) d) ∧ Ok1 d ∧ wid d ≤ sizeLine ∧ d.depth ≤ 64 := by
  have one : ∀ v, Sc v → ∃ d, (∀ H, Da K H v d) ∧ Ok1 d ∧ wid d ≤ 30002 ∧ d.depth = 0 := by
    intro v h
    obtain ⟨d, h1, h2, h3, h4⟩ := h.da (K := K) (H := fun _ => none)
    exact ⟨d, fun H => h1.same (fun _ o z => nomatch (show (Option.none : Option HO) = some o from z)), h2, h3, h4⟩
  obtain ⟨a, a1, a2, a3, a4⟩ := one x hx
  obtain ⟨b, b1, b2, b3, b4⟩ := one y hy
  refine ⟨.list [a, b], fun H q h => .lst h (.cons (a1 H) (.cons (b1 H) .nil)), ⟨a2, b2, trivial⟩, ?_, ?_⟩
  · have := sizeLine_eq
    show (wid a + 2 + (wid b + 2 + 0)) + 2 ≤ sizeLine
    omega
  · show max a.depth (max b.depth 0) + 1 ≤ 64
    omega
end K3

namespace K3
open PySem L2 Gd
/-- a value of its own -/
def Own (H H' : Hp) (v : V) : Prop := Sc v ∨ ∃ a o, v = .ref a ∧ H a = none ∧ H' a = some o ∧ FlatO 2 o
/-- six lines: texts, and a value of any kind -/
def spLines : Sp := fun vs H Q _ => ∃ p, vs = [.ref p, .str sigs] ∧ BoxAt H p ∧ ∀ l H' (xs : List Str) (v : V), Kept H H' p → H l = none → H' l = some (.lst (xs.map V.str ++ [v])) → xs.length = 5 → (∀ x ∈ xs, Tx 3000 x) → Own H H' v → V.ref l ≠ v → Q (.ref l) H'
section
variable {P : Program} {w : World} {K : PySem.W.Frag} {mg : Str → Option Value} {base : Heap} {C_I f_I : Addr}
abbrev s_law_lines : Stmt := top 15
theorem sc_law_lines : FnScope ["_law_box_here", "_law_signs_here", "_law_words", "_law_at", "_law_size", "_law_typed", "_law_more", "_law_found", "_law_things", "_law_j"] ["_law_box_here", "_law_signs_here"] (defScope s_law_lines) := ⟨rfl, rfl, rfl, by decide +kernel, rfl, by decide +kernel, by decide +kernel⟩
theorem ok_lines {f f1 : Addr} {fd fd1 : FuncData} (F : Fun K "_law_lines" "_law_lines" s_law_lines f fd) (T : Txt K mg base C_I f_I)
    (D__law_take : Df P w K mg base CX0 1 "_law_take" f1 fd1 ["_law_box_here", "_law_size"] spTake) : FnG P w K mg base CX0 5 f fd ["_law_box_here", "_law_signs_here"] spLines := by
  refine okG F sc_law_lines (fun vs H Q E h => ?_) (fun cdv A outer s H vs Q E hc hr h => ?_)
  · obtain ⟨p, rfl, _⟩ := h
    rfl
  obtain ⟨p, rfl, hb, q⟩ := h
  refine ⟨_, (pss_cons (ps_set (i := 2) sc_law_lines.nd rfl (Or.inl rfl) (pe_lst pa_nil))
 (pss_cons (ps_for (passes_of rfl) rfl (pi_range1 rfl T.z_range (pa_cons (pe_d D__law_take hc (hr.mono (by omega)) (by rfl) (fun _ => passN) (pa_cons (pv 0) (pa_cons pe_int pa_nil))) pa_nil)) (pg_name (i := 3) sc_law_lines.nd rfl (Or.inl rfl))
  (pss_cons (ps_set (i := 4) sc_law_lines.nd rfl (Or.inl rfl) (pe_ix ix_list (pe_lst (pa_cons pe_int (pa_cons (pe_op op_add pe_int (pe_d D__law_take hc (hr.mono (by omega)) (by rfl) (fun _ => passN) (pa_cons (pv 0) (pa_cons pe_int pa_nil)))) (pa_cons pe_int pa_nil)))) (pe_d D__law_take hc (hr.mono (by omega)) (by rfl) (fun _ => passN) (pa_cons (pv 0) (pa_cons pe_int pa_nil))) (fun _ _ => rfl)))
 (pss_one (ps_expr (pe_bm PySem.F.plainAttrs_list PySem.F.slot_list_append PySem.F.type_list_append mt_append (pv 2) (pa_cons (pe_join pe_str (pe_lc (own := [("_law_j", 9)]) (g := gName 9) rfl sc_law_lines.nd (pi_range1 rfl T.z_range (pa_cons (pv 4) pa_nil)) (blkOk_by (N := ["_law_box_here", "_law_signs_here", "_law_words", "_law_at", "_law_size", "_law_typed", "_law_more", "_law_found", "_law_things", "_law_j"]) (sc := defScope s_law_lines) (by decide +kernel)) (fun _ _ _ _ _ => pg_name (i := 9) sc_law_lines.nd rfl (Or.inl rfl)) (fun _ _ _ _ _ => pts_nil) (fun _ _ _ _ _ => (pe_ix ix_str (pv 1) (pe_d D__law_take hc (hr.mono (by omega)) (by rfl) (fun _ => passN) (pa_cons (pv 0) (pa_cons (pe_callB call_len_str (by rfl) T.z_len (by decide +kernel) (pa_cons (pv 1) pa_nil)) pa_nil))) (fun _ _ => rfl))))) pa_nil))))))
 (pss_out (po_join (pv 2)) (pg_name (i := 5) sc_law_lines.nd rfl (Or.inl rfl))
 (psst_cons (PST.of (ps_set (i := 3) sc_law_lines.nd rfl (Or.inl rfl) (pe_d D__law_take hc (hr.mono (by omega)) (by rfl) (fun _ => passN) (pa_cons (pv 0) (pa_cons (pe_op op_add (pe_callB call_len_str (by rfl) T.z_len (by decide +kernel) (pa_cons (pv 5) pa_nil)) pe_int) pa_nil)))))
 (psst_pick (i := 6) sc_law_lines.nd rfl rfl (.cons (.cons (.cons (.cons (.cons (.cons .nil)))))) (by decide) (pe_d D__law_take hc (hr.mono (by omega)) (by rfl) (fun _ => passN) (pa_cons (pv 0) (pa_cons pe_int pa_nil))) (fun _ _ => rfl)
 (psk_set (i := 7) sc_law_lines.nd rfl rfl (pq_lst (pqa_cons (pq_cat (pq_cat (pq_slice (pq_var (i := 5) rfl rfl) pqo_none (pqo_some (pq_var (i := 3) rfl rfl))) (pq_var (i := 6) rfl rfl)) (pq_slice (pq_var (i := 5) rfl rfl) (pqo_some (pq_var (i := 3) rfl rfl)) pqo_none)) (pqa_cons (pq_cat (pq_slice (pq_var (i := 5) rfl rfl) pqo_none (pqo_some (pq_var (i := 3) rfl rfl))) (pq_slice (pq_var (i := 5) rfl rfl) (pqo_some (pq_add (pq_add (pq_var (i := 3) rfl rfl) pq_int) (pq_d D__law_take hc (hr.mono (by omega)) (by rfl) (fun _ => passN) (pqa_cons (pq_cell (i := 0) rfl rfl) (pqa_cons pq_int pqa_nil))))) pqo_none)) (pqa_cons (pq_var (i := 5) rfl rfl) pqa_nil)))) (by decide)
 (psk_expr (pek_bm PySem.F.plainAttrs_list PySem.F.slot_list_extend PySem.F.type_list_extend mt_extend (pq_var (i := 7) rfl rfl) (pek_two (pq_cat (pq_cat (pq_var (i := 6) rfl rfl) (pq_var (i := 5) rfl rfl)) (pq_var (i := 6) rfl rfl)) (pek_repl (i := 6) rfl rfl T.nb (pq_var (i := 5) rfl rfl))))
(pss_cons (ps_set (i := 8) sc_law_lines.nd rfl (Or.inl rfl) (pe_lst (pa_cons pe_non (pa_cons pe_int (pa_cons pe_bl (pa_cons (pe_lst (pa_cons pe_str pa_nil)) (pa_cons (pe_tup (pa_cons pe_str (pa_cons pe_str pa_nil))) (pa_cons pe_dnewK (pa_cons pe_str (pa_cons pe_str (pa_cons pe_str (pa_cons pe_str (pa_cons pe_str pa_nil)))))))))))))
 (pss_one (ps_ret (pe_op op_cat (pv 7) (pe_lst (pa_cons (pe_ix ix_list (pv 8) (pe_d D__law_take hc (hr.mono (by omega)) (by rfl) (fun _ => passN) (pa_cons (pv 0) (pa_cons pe_int pa_nil))) (fun _ _ => rfl)) pa_nil))))))))))))), ?_⟩
  have z16 := sizeLine_eq
  have dg : Tx 100 sigs := sigs_tx
  have dl := sigs_len
  refine ⟨by show 0 ≤ sizeLine; omega, fun W hW => ?_⟩
  have k0 := (Kept.refl hb).new (o := .lst []) hW
  refine ⟨_, rfl, p, 9, rfl, k0.box, by decide, by decide, fun n9 H1 n0 n1 t1 => ?_⟩
  have Wp := Kept.ne hb hW
  have w1 : H1 W = some (.lst ([] : List V)) := t1.at Wp upd_same
  have k1 := k0.turn t1
  refine ⟨n9, rfl, (by omega), (by omega), ?_⟩
  refine for_range (fun i σ H' => ∃ (o3 o4 o9 : Option V) (ws : List Str), σ = [some (.ref p), some (.str sigs), some (.ref W), o3, o4, none, none, none, none, o9] ∧ H' W = some (.lst (ws.map V.str)) ∧ ws.length = i ∧ (∀ y ∈ ws, Tx 40 y) ∧ Kept H H' p)
    ⟨none, none, none, [], rfl, w1, rfl, (fun y hy => nomatch hy), k1⟩ ?_ ?_
  · rintro i _ H2 hi ⟨o3, o4, o9, ws, rfl, w2, wl, wt, k2⟩
    refine ⟨_, rfl, p, 6, rfl, k2.box, by decide, by decide, fun d1 H3 a1 b1 t3 => ⟨_, _, rfl, rfl, (by show 3 ≤ sizeLine; omega), fun l hl => ?_⟩⟩
    have k3 := k2.turn t3
    have w3 : H3 W = some (.lst (ws.map V.str)) := t3.at Wp w2
    have lW : W ≠ l := fun z => by rw [z, hl] at w3; exact nomatch w3
    have k4 := k3.new (o := .lst [.int 1, .int (1 + d1), .int 40]) hl
    refine ⟨_, rfl, p, 3, rfl, k4.box, by decide, by decide, fun d2 H4 a2 b2 t4 => ?_⟩
    have k5 := k4.turn t4
    have w4 : H4 W = some (.lst (ws.map V.str)) := t4.at Wp (by rw [upd_ne lW]; exact w3)
    have l4 : H4 l = some (.lst [.int 1, .int (1 + d1), .int 40]) := t4.at (Kept.ne k3.box hl) upd_same
    obtain ⟨v, hv, z, rfl, z1, z2⟩ := atI_all (l := [V.int 1, .int (1 + d1), .int 40]) (p := fun v => ∃ z, v = .int z ∧ 1 ≤ z ∧ z ≤ 40) (by
      intro v hv
      simp only [List.mem_cons, List.not_mem_nil, or_false] at hv
      rcases hv with rfl | rfl | rfl <;> exact ⟨_, rfl, by omega, by omega⟩) a2 (by show d2 < 3; exact b2)
    refine ⟨l, _, _, _, rfl, rfl, SqL.of l4, hv, ?_⟩
    refine ⟨_, rfl, .inl ⟨rfl, _, SqL.of w4⟩, ⟨_, rfl⟩, _, rfl, _, rfl, by omega, by omega, fun D hD => ?_⟩
    have hD0 : H D = none := k5.free hb hD
    have hDp : D ≠ p := Kept.ne hb hD0
    have WD : W ≠ D := fun z => by rw [z, hD] at w4; exact nomatch w4
    refine lc_range (lo := 0) (n := z.toNat) (fun i H' => ∃ ys : List Str, ys.length = i ∧ (∀ y ∈ ys, Tx 1 y) ∧ H' D = some (.lst (ys.map V.str)) ∧ H' W = some (.lst (ws.map V.str)) ∧ Kept H H' p)
      ⟨[], rfl, fun _ h => absurd h List.not_mem_nil, upd_same, (by rw [upd_ne WD]; exact w4), k5.put hb hD0⟩ ?_ ?_
    · rintro j Hh hj ⟨ys, e1, e2, e3, e4, k6⟩
      refine ⟨wipe1 _ _ _, ?_⟩
      refine yes_go ?_
      refine ⟨_, rfl, _, rfl, _, rfl, _, rfl, (by rw [dl]; omega), p, _, rfl, k6.box, (by rw [dl]; decide), (by rw [dl]; decide), fun d H6 a b t => ?_⟩
      obtain ⟨c, hc, hc1, _⟩ := atI_sign dg a b
      refine ⟨_, _, c, rfl, rfl, (by rw [dl]; omega), hc, ys.map V.str, t.at hDp e3, ?_, ys ++ [⟨#[c]⟩], ?_, ?_, ?_, ?_, (k6.turn t).put hb hD0⟩
      · rw [List.length_map]
        omega
      · rw [List.length_append, e1]
        rfl
      · intro y hy
        rcases List.mem_append.mp hy with h | h
        · exact e2 y h
        · have : y = ⟨#[c]⟩ := by simpa using h
          rw [this]
          exact hc1
      · rw [upd_same, List.map_append]
        rfl
      · rw [upd_ne WD]
        exact t.at Wp e4
    rintro H5 ⟨ys, e1, e2, e3, e4, k6⟩
    refine ⟨_, D, ys, rfl, rfl, .inl (SqL.of e3), ?_, ?_⟩
    · have h1 : (ys.map (·.length)).sum ≤ ys.length * 1 := by
        have := sum_le (l := ys.map (·.length)) (n := 1) fun x hx => by
          obtain ⟨y, hy, rfl⟩ := List.mem_map.mp hx
          exact (e2 y hy).len
        rw [List.length_map] at this
        exact this
      have h2 : ((("" : String) : Str)).length = 0 := by decide +kernel
      rw [h2]
      omega
    have tj : Tx 40 (Txt.join "" ys) := by
      have h0 : Tx 0 (("" : String) : Str) := .of (by decide +kernel)
      exact (h0.join (n := 1) (k := 40) (fun y hy => e2 y hy) (by omega)).mono (by decide)
    refine ⟨W, _, _, rfl, rfl, e4, (by rw [List.length_map]; omega), ?_⟩
    refine ⟨_, _, _, ws ++ [Txt.join "" ys], rfl, ?_, ?_, ?_, k6.put hb hW⟩
    · rw [upd_same, List.map_append]
      rfl
    · rw [List.length_append, wl]
      rfl
    · intro y hy
      rcases List.mem_append.mp hy with h | h
      · exact wt y h
      · rw [List.mem_singleton.mp h]
        exact tj
  rintro _ H2 ⟨o3, o4, o9, ws, rfl, w2, wl, wt, k2⟩
  have wl8 : ws.length ≤ 8 := by omega
  refine ⟨⟨_, rfl⟩, _, rfl, _, W, ws, rfl, rfl, .inl (SqL.of w2), ?_, ?_⟩
  · have h1 : (ws.map (·.length)).sum ≤ ws.length * 40 := by
      have := sum_le (l := ws.map (·.length)) (n := 40) fun x hx => by
        obtain ⟨y, hy, rfl⟩ := List.mem_map.mp hx
        exact (wt y hy).len
      rw [List.length_map] at this
      exact this
    have h2 : ((" " : String) : Str).length = 1 := by decide +kernel
    rw [h2]
    omega
  have tj : Tx 400 (Txt.join " " ws) := by
    have h0 : Tx 1 ((" " : String) : Str) := .of (by decide +kernel)
    exact (h0.join (n := 40) (k := 8) wt wl8).mono (by decide)
  generalize Txt.join (Str.ofString " ") ws = ty at tj
  have tyl := tj.len
  refine ⟨_, rfl, _, rfl, _, rfl, by omega, _, _, rfl, rfl, p, _, rfl, k2.box, by omega, by omega, fun d3 H3 a3 b3 t3 => ?_⟩
  have k3 := k2.turn t3
  refine ⟨_, rfl, p, 6, rfl, k3.box, by decide, by decide, fun d4 H4 a4 b4 t4 => ?_⟩
  have k4 := k3.turn t4
  obtain ⟨z, hz, tz⟩ : ∃ z, ([Str.ofString " ", Str.ofString "\n", Str.ofString "  ", Str.ofString "", Str.ofString "\n\n", Str.ofString "    "] : List Str)[d4.toNat]? = some z ∧ Tx 4 z := by
    have l6 : d4.toNat < ([Str.ofString " ", Str.ofString "\n", Str.ofString "  ", Str.ofString "", Str.ofString "\n\n", Str.ofString "    "] : List Str).length := by
      show d4.toNat < 6
      omega
    refine ⟨_, List.getElem?_eq_getElem l6, ?_⟩
    have all : ∀ x ∈ ([Str.ofString " ", Str.ofString "\n", Str.ofString "  ", Str.ofString "", Str.ofString "\n\n", Str.ofString "    "] : List Str), Tx 4 x := by
      intro x hx
      simp only [List.mem_cons, List.not_mem_nil, or_false] at hx
      rcases hx with rfl | rfl | rfl | rfl | rfl | rfl <;> exact .of (by decide +kernel)
    exact all _ (List.getElem_mem l6)
  refine ⟨d4, z, rfl, a4, hz, ?_⟩
  have zl := tz.len
  have c1 := tj.cut none (some d3)
  have c2 := tj.cut (some d3) none
  have n1 := c1.len
  have n2 := c2.len
  have g1 := (c1.app tz).app c2
  have e3 := (c1.app tz).len
  refine ⟨_, rfl, _, rfl, _, rfl, ty, rfl, by omega, _, rfl, _, _, rfl, rfl, by omega, _, rfl, _, rfl, _, rfl, ty, rfl, by omega, _, _, rfl, rfl, by omega, ?_⟩
  refine ⟨_, rfl, _, rfl, _, rfl, ty, rfl, by omega, _, rfl, _, rfl, _, _, rfl, rfl, _, rfl, p, 3, rfl, k4.box, by decide, by decide, fun d5 H5 a5 b5 t5 => ?_⟩
  have k5 := k4.turn t5
  have c3 := tj.cut (some (d3 + 1 + d5)) none
  have n3 := c3.len
  have g2 := c1.app c3
  refine ⟨_, _, rfl, rfl, _, rfl, ty, rfl, by omega, _, _, rfl, rfl, by omega, _, rfl, (by show 3 ≤ sizeLine; omega), fun F hF => ?_⟩
  have k6 := k5.new (o := .lst [.str (cutS ty none (some d3) ++ z ++ cutS ty (some d3) none), .str (cutS ty none (some d3) ++ cutS ty (some (d3 + 1 + d5)) none), .str ty]) hF
  have g4 := (tz.app tj).app tz
  have n4 := (tz.app tj).len
  have g5 := repl_tx tj tz
  have n5 := g4.len
  refine ⟨_, rfl, .inl ⟨rfl, _, SqL.of upd_same⟩, _, rfl, _, rfl, _, _, rfl, rfl, by omega, _, rfl, _, _, rfl, rfl, by omega, ?_⟩
  have rz : ty.length + (ty.length + 1) * z.length ≤ 16777216 := by
    have : (ty.length + 1) * z.length ≤ 401 * 4 := Nat.mul_le_mul (by omega) zl
    omega
  refine ⟨_, rfl, ty, z, rfl, rfl, rz, (by show 2 ≤ sizeLine; omega), fun L hL => ?_⟩
  have at1 : upd (upd H5 F (.lst [.str (cutS ty none (some d3) ++ z ++ cutS ty (some d3) none), .str (cutS ty none (some d3) ++ cutS ty (some (d3 + 1 + d5)) none), .str ty])) L (.lst [.str (z ++ ty ++ z), .str (Txt.replace ty (Str.ofString " ") z)]) F = some (.lst [.str (cutS ty none (some d3) ++ z ++ cutS ty (some d3) none), .str (cutS ty none (some d3) ++ cutS ty (some (d3 + 1 + d5)) none), .str ty]) := keepO upd_same hL
  have k7 := k6.new (o := .lst [.str (z ++ ty ++ z), .str (Txt.replace ty (Str.ofString " ") z)]) hL
  have FH : H F = none := k5.free hb hF
  have Fp : F ≠ p := Kept.ne hb FH
  refine ⟨F, L, _, _, rfl, rfl, at1, upd_same, (by show 3 + 2 ≤ sizeLine; omega), ?_⟩
  have g6 : Tx 3000 (Txt.replace ty (Str.ofString " ") z) := g5.mono (by decide)
  have five : ([V.str (cutS ty none (some d3) ++ z ++ cutS ty (some d3) none), .str (cutS ty none (some d3) ++ cutS ty (some (d3 + 1 + d5)) none), .str ty] ++ [V.str (z ++ ty ++ z), .str (Txt.replace ty (Str.ofString " ") z)]) = [cutS ty none (some d3) ++ z ++ cutS ty (some d3) none, cutS ty none (some d3) ++ cutS ty (some (d3 + 1 + d5)) none, ty, z ++ ty ++ z, Txt.replace ty (Str.ofString " ") z].map V.str := rfl
  rw [five]
  obtain ⟨xs, exs⟩ : ∃ xs, xs = [cutS ty none (some d3) ++ z ++ cutS ty (some d3) none, cutS ty none (some d3) ++ cutS ty (some (d3 + 1 + d5)) none, ty, z ++ ty ++ z, Txt.replace ty (Str.ofString " ") z] := ⟨_, rfl⟩
  have xl : xs.length = 5 := by rw [exs]; rfl
  have xt : ∀ x ∈ xs, Tx 3000 x := by
    intro x hx
    rw [exs] at hx
    simp only [List.mem_cons, List.not_mem_nil, or_false] at hx
    rcases hx with rfl | rfl | rfl | rfl | rfl
    · exact g1.mono (by decide)
    · exact g2.mono (by decide)
    · exact tj.mono (by decide)
    · exact g4.mono (by decide)
    · exact g6
  rw [← exs]
  have k8 : Kept H (upd (upd (upd H5 F (.lst [.str (cutS ty none (some d3) ++ z ++ cutS ty (some d3) none), .str (cutS ty none (some d3) ++ cutS ty (some (d3 + 1 + d5)) none), .str ty])) L (.lst [.str (z ++ ty ++ z), .str (Txt.replace ty (Str.ofString " ") z)])) F (.lst (xs.map V.str))) p := k7.put hb FH
  have at2 : upd (upd (upd H5 F (.lst [.str (cutS ty none (some d3) ++ z ++ cutS ty (some d3) none), .str (cutS ty none (some d3) ++ cutS ty (some (d3 + 1 + d5)) none), .str ty])) L (.lst [.str (z ++ ty ++ z), .str (Txt.replace ty (Str.ofString " ") z)])) F (.lst (xs.map V.str)) F = some (.lst (xs.map V.str)) := upd_same
  clear five exs at1
  generalize upd (upd (upd H5 F (.lst [.str (cutS ty none (some d3) ++ z ++ cutS ty (some d3) none), .str (cutS ty none (some d3) ++ cutS ty (some (d3 + 1 + d5)) none), .str ty])) L (.lst [.str (z ++ ty ++ z), .str (Txt.replace ty (Str.ofString " ") z)])) F (.lst (xs.map V.str)) = G at k8 at2
  refine ⟨(by show 1 ≤ sizeLine; omega), fun a1 h1 => ⟨(by show 2 ≤ sizeLine; omega), fun a2 h2 => fun a3 h3 => ⟨(by show 11 ≤ sizeLine; omega), fun T hT => ?_⟩⟩⟩
  have m1 := k8.new (o := .lst [.str (Str.ofString "a")]) h1
  have m2 := m1.new (o := .tup [.str (Str.ofString "a"), .str (Str.ofString "b")]) h2
  have m3 := m2.new (o := .dK []) h3
  have m4 := m3.new (o := .lst [.non, .int 7, .bl true, .ref a1, .ref a2, .ref a3, .str (Str.ofString ""), .str (Str.ofString " "), .str (Str.ofString "\n"), .str (Str.ofString "a\nb"), .str (Str.ofString "a b\nc d\n")]) hT
  have f1 := k8.free hb h1
  have f2 := m1.free hb h2
  have f3 := m2.free hb h3
  have f4 := m3.free hb hT
  have s4 := same_new (o := .lst [.non, .int 7, .bl true, .ref a1, .ref a2, .ref a3, .str (Str.ofString ""), .str (Str.ofString " "), .str (Str.ofString "\n"), .str (Str.ofString "a\nb"), .str (Str.ofString "a b\nc d\n")]) hT
  have s3 := (same_new (o := .dK []) h3).trans s4
  have s2 := (same_new (o := .tup [.str (Str.ofString "a"), .str (Str.ofString "b")]) h2).trans s3
  have s1 := (same_new (o := .lst [.str (Str.ofString "a")]) h1).trans s2
  have o1 := s2 _ _ (upd_same (H := G) (a := a1) (o := .lst [.str (Str.ofString "a")]))
  have o2 := s3 _ _ (upd_same (H := upd G a1 (.lst [.str (Str.ofString "a")])) (a := a2) (o := .tup [.str (Str.ofString "a"), .str (Str.ofString "b")]))
  have o3 := s4 _ _ (upd_same (H := upd (upd G a1 (.lst [.str (Str.ofString "a")])) a2 (.tup [.str (Str.ofString "a"), .str (Str.ofString "b")])) (a := a3) (o := .dK []))
  have oF := s1 _ _ at2
  refine ⟨_, rfl, _, rfl, _, rfl, p, 11, rfl, m4.box, by decide, by decide, fun d6 H6 a6 b6 t6 => ?_⟩
  have tw : ∀ x : Str, (decide (x.length ≤ 3000) && x.cps.toList.all fun c => decide (c < 128)) = true → Sc (.str x) := fun x h => Tx.of h
  obtain ⟨v, hv, ov, fv⟩ := atI_all (l := [V.non, .int 7, .bl true, .ref a1, .ref a2, .ref a3, .str (Str.ofString ""), .str (Str.ofString " "), .str (Str.ofString "\n"), .str (Str.ofString "a\nb"), .str (Str.ofString "a b\nc d\n")]) (p := fun v => Own H H6 v ∧ ∀ a, v = .ref a → ∃ o, H6 a = some o) (by
    intro v hv
    simp only [List.mem_cons, List.not_mem_nil, or_false] at hv
    rcases hv with rfl | rfl | rfl | rfl | rfl | rfl | rfl | rfl | rfl | rfl | rfl
    · exact ⟨.inl trivial, fun a z => nomatch z⟩
    · exact ⟨.inl (by show (7 : Int).natAbs < 2 ^ 200; decide), fun a z => nomatch z⟩
    · exact ⟨.inl trivial, fun a z => nomatch z⟩
    · have := t6.at (Kept.ne hb f1) o1
      exact ⟨.inr ⟨a1, _, rfl, f1, this, .inl ⟨_, rfl, by decide, fun v hv => by rw [List.mem_singleton.mp hv]; exact tw _ (by decide +kernel)⟩⟩, fun a z => by injection z with z; rw [← z]; exact ⟨_, this⟩⟩
    · have := t6.at (Kept.ne hb f2) o2
      exact ⟨.inr ⟨a2, _, rfl, f2, this, .inr (.inl ⟨_, rfl, Nat.le_refl _, fun v hv => by
        rcases List.mem_cons.mp hv with e | hv
        · rw [e]; exact tw _ (by decide +kernel)
        · rw [List.mem_singleton.mp hv]; exact tw _ (by decide +kernel)⟩)⟩, fun a z => by injection z with z; rw [← z]; exact ⟨_, this⟩⟩
    · have := t6.at (Kept.ne hb f3) o3
      exact ⟨.inr ⟨a3, _, rfl, f3, this, .inr (.inr (.inl rfl))⟩, fun a z => by injection z with z; rw [← z]; exact ⟨_, this⟩⟩
    all_goals exact ⟨.inl (tw _ (by decide +kernel)), fun a z => nomatch z⟩) a6 (by show d6 < 11; exact b6)
  have at6 := t6.at Fp oF
  have T6 := t6.at (Kept.ne hb f4) upd_same
  refine ⟨T, _, d6, v, rfl, rfl, SqL.of T6, hv, (by show 1 ≤ sizeLine; omega), fun B hB => ?_⟩
  have k9 := (m4.turn t6).new (o := .lst [v]) hB
  refine ⟨F, B, _, _, rfl, rfl, keepO at6 hB, upd_same, (by rw [List.length_map, xl]; show 5 + 1 ≤ sizeLine; omega), fun R hR => ?_⟩
  have k10 := k9.new (o := .lst (xs.map V.str ++ [v])) hR
  refine q R _ xs v k10 (k9.free hb hR) upd_same xl xt ?_ ?_
  · rcases ov with h | ⟨a, o, rfl, h1, h2, h3⟩
    · exact .inl h
    · exact .inr ⟨a, o, rfl, h1, keepO (keepO h2 hB) hR, h3⟩
  · intro z
    obtain ⟨o, ho⟩ := fv R z.symm
    have := keepO (u := .lst [v]) ho hB
    rw [hR] at this
    exact nomatch this
end
end K3

namespace K3
open PySem L2 Gd
theorem txs_da {K : PySem.W.Frag} {n : Nat} {H : Hp} : ∀ {ws : List Str}, (∀ x ∈ ws, Tx n x) → ∃ ds, DaL K H (ws.map V.str) ds ∧ OkL ds ∧ widL ds ≤ 10 * (ws.map (·.length)).sum + 4 * ws.length ∧ PyData.depthAll ds = 0 ∧ ∀ H', DaL K H' (ws.map V.str) ds
  | [], _ => ⟨[], .nil, trivial, Nat.le_refl _, rfl, fun _ => .nil⟩
  | x :: ws, h => by
    have t := h x List.mem_cons_self
    obtain ⟨ds, g1, g2, g3, g4, g5⟩ := txs_da (K := K) (H := H) (ws := ws) fun y hy => h y (List.mem_cons_of_mem _ hy)
    refine ⟨.str x :: ds, .cons (.str x) g1, ⟨t.big, g2⟩, ?_, ?_, fun H' => .cons (.str x) (g5 H')⟩
    · show (10 * x.length + 2) + 2 + widL ds ≤ 10 * (x.length + (ws.map (·.length)).sum) + 4 * (ws.length + 1)
      omega
    · show max 0 (PyData.depthAll ds) = 0
      rw [g4]
      rfl
/-- a pair of a word and a list of words -/
theorem ret_da {K : PySem.W.Frag} {n : Nat} {g : Str} {ws : List Str} (hg : Tx 10 g) (h : ∀ x ∈ ws, Tx n x) (hl : ws.length ≤ 3001) (hs : (ws.map (·.length)).sum ≤ 3000) :
    ∃ d, (∀ H q a, H q = some (.lst [.str g, .ref a]) → H a = some (.lst (ws.map V.str)) → Da K H (.ref q) d) ∧ Ok1 d ∧ wid d ≤ sizeLine ∧ d.depth ≤ 64 := by
  obtain ⟨ds, g1, g2, g3, g4, g5⟩ := txs_da (K := K) (H := fun _ => none) h
  refine ⟨.list [.str g, .list ds], fun H q a e1 e2 => .lst e1 (.cons (.str g) (.cons (.lst e2 (g5 H)) .nil)), ⟨hg.big, g2, trivial⟩, ?_, ?_⟩
  · have := sizeLine_eq
    have := hg.len
    show ((10 * g.length + 2) + 2 + (widL ds + 2 + 2 + 0)) + 2 ≤ sizeLine
    omega
  · show max 0 (max (PyData.depthAll ds + 1) 0) + 1 ≤ 64
    rw [g4]
    decide
theorem inv_da {K : PySem.W.Frag} {n : Nat} {H : Hp} {g : Str} {v : V} (hn : n ≤ 10) (hg : Tx 10 g) (hv : Fl n H v) :
    ∃ d, (∀ H' q, Same H H' → H' q = some (.lst [.str g, v]) → Da K H' (.ref q) d) ∧ Ok1 d ∧ wid d ≤ sizeLine ∧ d.depth ≤ 64 := by
  obtain ⟨a, a1, a2, a3, a4⟩ := hv.da (K := K) hn
  refine ⟨.list [.str g, a], fun H' q s h => .lst h (.cons (.str g) (.cons (a1.same s) .nil)), ⟨hg.big, a2, trivial⟩, ?_, ?_⟩
  · have := sizeLine_eq
    have := hg.len
    show ((10 * g.length + 2) + 2 + (wid a + 2 + 0)) + 2 ≤ sizeLine
    omega
  · show max 0 (max a.depth 0) + 1 ≤ 64
    omega
def spLaw (K : PySem.W.Frag) : Sp := fun vs H Q _ => ∃ (a : Addr) (ns : List Int), vs = [.ref a] ∧ SqL K H a (ns.map V.int) ∧ ns.length ≤ 63 ∧ ∀ H', Q (.bl true) H'
section
variable {P : Program} {w : World} {K : PySem.W.Frag} {mg : Str → Option Value} {base : Heap} {C_I f_I : Addr}
abbrev slaw : Stmt := top 16
theorem sclaw : FnScope ["_law_script", "_law_k", "_law_box_here", "_law_signs_here", "_law_turn", "_law_one", "_law_due_here", "_law_lap", "_law_stood", "_law_found", "_law_told"] ["_law_script"] (defScope slaw) := ⟨rfl, rfl, rfl, by decide +kernel, rfl, by decide +kernel, by decide +kernel⟩
theorem ok_law {f f1 f2 f3 f4 f5 f6 f7 : Addr} {fd fd1 fd2 fd3 fd4 fd5 fd6 fd7 : FuncData} (F : Fun K "law" "law" slaw f fd) (T : Txt K mg base C_I f_I)
    (D__law_cell : Df P w K mg base CX0 1 "_law_cell" f1 fd1 ["_law_script", "_law_k"] (spScr K))
    (D__law_box : Df P w K mg base CX0 1 "_law_box" f2 fd2 ["_law_cell_here"] spBox)
    (D__law_signs : Df P w K mg base CX0 1 "_law_signs" f3 fd3 [] spSigns)
    (D__law_long_right : Df P w K mg base CX0 5 "_law_long_right" f4 fd4 ["_law_box_here", "_law_signs_here"] spLong)
    (D__law_lines : Df P w K mg base CX0 5 "_law_lines" f5 fd5 ["_law_box_here", "_law_signs_here"] spLines)
    (D__law_due : Df P w K mg base CX0 4 "_law_due" f6 fd6 ["_law_typed"] spDue)
    (D__law_called : Df P w K mg base CX0 5 "_law_called" f7 fd7 ["_law_typed"] spCalled) :
    FnG P w K mg base CX0 6 f fd ["_law_script"] (spLaw K) := by
  refine okG F sclaw (fun vs H Q E h => ?_) (fun cdv A outer s H vs Q E hc hr h => ?_)
  · obtain ⟨a, ns, rfl, _⟩ := h
    rfl
  obtain ⟨a, ns, rfl, ha, hns, q⟩ := h
  refine ⟨_, (pss_cons (ps_for (passes_of rfl) rfl (pi_range1 rfl T.z_range (pa_cons (pe_callB (call_max2 rfl) (by rfl) T.z_max (by decide +kernel) (pa_cons pe_int (pa_cons (pe_callB (call_min2 rfl) (by rfl) T.z_min (by decide +kernel) (pa_cons pe_int (pa_cons (pe_callB call_len_seq (by rfl) T.z_len (by decide +kernel) (pa_cons (pv 0) pa_nil)) pa_nil))) pa_nil))) pa_nil)) (pg_name (i := 1) sclaw.nd rfl (Or.inl rfl))
  (pss_cons (ps_set (i := 2) sclaw.nd rfl (Or.inl rfl) (pe_d D__law_box hc (hr.mono (by omega)) (by rfl) (fun _ => passN) (pa_cons (pe_d D__law_cell hc (hr.mono (by omega)) (by rfl) (fun _ => passN) (pa_cons (pv 0) (pa_cons (pv 1) pa_nil))) pa_nil)))
 (pss_cons (ps_set (i := 3) sclaw.nd rfl (Or.inl rfl) (pe_d0 D__law_signs hc (hr.mono (by omega)) (by rfl) (fun _ => passN)))
 (pss_cons (ps_if (pt_not (pt_val (pe_d D__law_long_right hc (hr.mono (by omega)) (by rfl) (fun _ => passN) (pa_cons (pv 2) (pa_cons (pv 3) pa_nil)))))
  (pss_one (ps_ret pe_bl)) pss_nil)
 (pss_one (ps_for (passes_of rfl) rfl (pi_range1 rfl T.z_range (pa_cons pe_int pa_nil)) (pg_name (i := 4) sclaw.nd rfl (Or.inl rfl))
  (pss_one (ps_for (passes_of rfl) rfl (pi_list (pe_d D__law_lines hc (hr.mono (by omega)) (by rfl) (fun _ => passN) (pa_cons (pv 2) (pa_cons (pv 3) pa_nil)))) (pg_name (i := 5) sclaw.nd rfl (Or.inl rfl))
  (pss_cons (ps_set (i := 6) sclaw.nd rfl (Or.inl rfl) (pe_d D__law_due hc (hr.mono (by omega)) (by rfl) (fun _ => passN) (pa_cons (pv 5) pa_nil)))
 (pss_one (ps_for (passes_of rfl) rfl (pi_range1 rfl T.z_range (pa_cons pe_int pa_nil)) (pg_name (i := 7) sclaw.nd rfl (Or.inl rfl))
  (pss_cons (ps_par (i := 8) (j := 9) (by rfl) sclaw.nd rfl rfl (by decide) rfl rfl (pa_cons (pe_callB (call_repr hc T.sys (room100 hr)) (by rfl) T.z_repr (by decide +kernel) (pa_cons (pv 5) pa_nil)) (pa_cons (pe_d D__law_called hc (hr.mono (by omega)) (by rfl) (fun _ => passN) (pa_cons (pv 5) pa_nil)) pa_nil)) (by rfl))
 (pss_cons (ps_set (i := 10) sclaw.nd rfl (Or.inl rfl) (pe_ifExp (pt_cmpR op_isN (pv 6) pe_non (nomark _)) (pe_lst (pa_cons pe_str (pa_cons (pv 5) pa_nil))) (pe_lst (pa_cons pe_str (pa_cons (pv 6) pa_nil)))))
 (pss_cons (ps_if (PW.pt (pw_or (pt_cmpR op_ne (pe_callB (call_repr hc T.sys (room100 hr)) (by rfl) T.z_repr (by decide +kernel) (pa_cons (pv 5) pa_nil)) (pv 8) (nomark _)) (pw_or1 (pt_cmpR op_ne (pe_callB (call_repr hc T.sys (room100 hr)) (by rfl) T.z_repr (by decide +kernel) (pa_cons (pv 9) pa_nil)) (pe_callB (call_repr hc T.sys (room100 hr)) (by rfl) T.z_repr (by decide +kernel) (pa_cons (pv 10) pa_nil)) (nomark _)))))
  (pss_one (ps_ret pe_bl)) pss_nil)
 (pss_cons (ps_if (pt_val (pe_callB call_isk (by rfl) T.z_isinstance (by decide +kernel) (pa_cons (pe_ix ix_list (pv 9) pe_int (fun _ _ => rfl)) (pa_cons (pe_bltn (v := .ty "list") (by rfl) T.z_list (by decide +kernel) rfl) pa_nil))))
  (pss_one (ps_expr (pe_bm PySem.F.plainAttrs_list PySem.F.slot_list_append PySem.F.type_list_append mt_append (pe_ix ix_list (pv 9) pe_int (fun _ _ => rfl)) (pa_cons pe_str pa_nil)))) pss_nil)
 (pss_one (ps_if (PW.pt (pw_and (pt_cmpR op_isN (pv 6) pe_non (nomark _)) (pw_and1 (pt_cmpR op_ne (pe_callB (call_repr hc T.sys (room100 hr)) (by rfl) T.z_repr (by decide +kernel) (pa_cons (pe_ix ix_list (pv 9) pe_int (fun _ _ => rfl)) pa_nil)) (pe_callB (call_repr hc T.sys (room100 hr)) (by rfl) T.z_repr (by decide +kernel) (pa_cons (pv 5) pa_nil)) (nomark _)))))
  (pss_one (ps_ret pe_bl)) pss_nil)))))))))))))))))
 (pss_one (ps_ret pe_bl))), ?_⟩
  have z16 := sizeLine_eq
  have eq0 : ∀ {x : Str} {A B : Prop}, B → if (!decide (V.str x = V.str x)) = true then A else B := fun {x A B} h =>
    iteB (fun c => by simp at c) (fun _ => h)
  refine ⟨_, rfl, a, _, rfl, .inl ha, _, _, rfl, _, _, rfl, _, rfl, ?_, ?_, ?_⟩
  · split <;> split <;> omega
  · split <;> split <;> omega
  refine for_range (fun i σ H' => ∃ o1 o2 o3 o4 o5 o6 o7 o8 o9 o10, σ = [some (.ref a), o1, o2, o3, o4, o5, o6, o7, o8, o9, o10] ∧ SqL K H' a (ns.map V.int)) ⟨none, none, none, none, none, none, none, none, none, none, rfl, ha⟩ ?_ (fun _ _ _ => q _)
  rintro i _ H1 hi ⟨o1, o2, o3, o4, o5, o6, o7, o8, o9, o10, rfl, h1⟩
  have hi8 : i < 1000 := by
    refine Nat.lt_of_lt_of_le hi ?_
    split <;> split <;> omega
  refine ⟨_, rfl, _, rfl, a, ns, _, rfl, h1, ?_, ?_, fun z => ⟨z, rfl, fun p o hp hb => ?_⟩⟩
  · omega
  · omega
  have pl1 : Pl H1 p (upd H1 p o) := ⟨hp, fun b u hu => by rw [upd_ne (ne_of_none hu hp)]; exact hu, hb⟩
  refine ⟨rfl, ?_⟩
  refine ⟨_, rfl, _, rfl, p, rfl, hb, fun H2 k2 => ⟨_, rfl, ?_⟩⟩
  refine iteF ?_
  have pl2 := pl1.kept k2
  refine ⟨10, rfl, by decide, by decide, ?_⟩
  refine for_range (fun i' σ H' => ∃ o4 o5 o6 o7 o8 o9 o10, σ = [some (.ref a), some (.int (0 + (i : Nat))), some (.ref p), some (.str sigs), o4, o5, o6, o7, o8, o9, o10] ∧ Pl H1 p H') ⟨o4, o5, o6, o7, o8, o9, o10, rfl, pl2⟩ ?_ ?_
  · rintro i' _ H3 hi' ⟨o4, o5, o6, o7, o8, o9, o10, rfl, pl3⟩
    refine ⟨_, rfl, _, rfl, p, rfl, pl3.b, fun R H4 xs v k4 hR r4 xl xt ov Rv => ⟨R, rfl, ⟨_, SqL.of r4⟩, ?_⟩⟩
    have pl4 := pl3.kept k4
    have fv4 : Fl 2 H4 v := ov.imp id fun ⟨a, o, e, _, h, f⟩ => ⟨a, o, e, h, f⟩
    have farV : ∀ b u, H3 b = some u → V.ref b ≠ v := by
      intro b u hu z
      rcases ov with h | ⟨a, o, e, h1, _⟩
      · rw [← z] at h
        exact h
      · have := z.trans e
        injection this with this
        rw [this, h1] at hu
        exact nomatch hu
    have pV : V.ref p ≠ v := by
      obtain ⟨u, hu⟩ := pl3.b.some
      exact farV p u hu
    refine for_list (K := K) (a := R) (xs := xs.map V.str ++ [v]) (fun m σ H' => ∃ o5 o6 o7 o8 o9 o10, σ = [some (.ref a), some (.int (0 + (i : Nat))), some (.ref p), some (.str sigs), some (.int (0 + (i' : Nat))), o5, o6, o7, o8, o9, o10] ∧ H' R = some (.lst (xs.map V.str ++ [v])) ∧ Pl H1 p H' ∧ (m ≤ 5 → Fl 2 H' v)) ?_ ?_ ?_ ?_
    · exact ⟨_, _, _, _, _, _, rfl, r4, pl4, fun _ => fv4⟩
    · rintro m σ H' _ ⟨_, _, _, _, _, _, _, g1, _⟩
      exact SqL.of g1
    · rintro m t _ H5 hx ⟨o5, o6, o7, o8, o9, o10, rfl, r5, pl5, fv5⟩
      have ht : (m < 5 ∧ ∃ x, t = .str x ∧ Tx 3000 x) ∨ (m = 5 ∧ t = v) := by
        rcases Nat.lt_or_ge m 5 with h5 | h5
        · have h6 : m < (xs.map V.str).length := by rw [List.length_map, xl]; exact h5
          rw [List.getElem?_append_left h6] at hx
          obtain ⟨x, hx1, rfl⟩ := List.mem_map.mp (List.mem_of_getElem? hx)
          exact .inl ⟨h5, x, rfl, xt x hx1⟩
        · rw [List.getElem?_append_right (by rw [List.length_map, xl]; exact h5), List.length_map, xl] at hx
          have h7 : m - 5 = 0 := by
            have := (List.getElem?_eq_some_iff.mp hx).1
            have : m - 5 < 1 := this
            omega
          rw [h7] at hx
          exact .inr ⟨by omega, (Option.some.inj hx).symm⟩
      have ft5 : Fl 2 H5 t := by
        rcases ht with ⟨_, x, rfl, tx⟩ | ⟨h5, rfl⟩
        · exact .inl tx
        · exact fv5 (by omega)
      have Rt : V.ref R ≠ t := by
        rcases ht with ⟨_, x, rfl, tx⟩ | ⟨h5, rfl⟩
        · exact fun z => nomatch z
        · exact Rv
      have pt : V.ref p ≠ t := by
        rcases ht with ⟨_, x, rfl, tx⟩ | ⟨h5, rfl⟩
        · exact fun z => nomatch z
        · exact pV
      have farT : ∀ b u, H1 b = some u → V.ref b ≠ t := by
        rcases ht with ⟨_, x, rfl, tx⟩ | ⟨h5, rfl⟩
        · exact fun b u hu z => nomatch z
        · exact fun b u hu => farV b u (pl3.s b u hu)
      -- what is to come of the rest
      have nxt : ∀ H', But H5 H' t → m + 1 ≤ 5 → Fl 2 H' v := by
        intro H' bt hm
        rcases ht with ⟨h5, x, rfl, tx⟩ | ⟨h5, _⟩
        · exact (fv5 (by omega)).but (fun a e z => by rw [e] at z; exact nomatch z) bt
        · omega
      have sh5 : Short t := ft5.short
      refine ⟨_, rfl, t, rfl, ft5.pv, sh5, fun H6 s6 e6 => ?_, fun ws D6 H6 e6 s6 hD6 g6 => ?_⟩
      · refine ⟨2, rfl, by decide, by decide, ?_⟩
        refine for_range (fun j σ H' => ∃ o7 o8 o9 o10, σ = [some (.ref a), some (.int (0 + (i : Nat))), some (.ref p), some (.str sigs), some (.int (0 + (i' : Nat))), some t, some .non, o7, o8, o9, o10] ∧ But H5 H' t ∧ Fl (2 + j) H' t) ⟨_, _, _, _, rfl, fun q o _ h => s6 q o h, ft5.same s6⟩ ?_ ?_
        · rintro j _ H7 hj ⟨o7, o8, o9, o10, rfl, bt7, ft7⟩
          have hj2 : j < 2 := hj
          obtain ⟨dt, a1, a2, a3, a4⟩ := ft7.da (K := K) (by omega)
          obtain ⟨dI, i1, i2, i3, i4⟩ := inv_da (K := K) (g := Str.ofString "invalid") (by omega) (Tx.of (by decide +kernel)) ft7
          refine ⟨_, rfl, t, dt, rfl, a1, a2, by omega, by omega, _, rfl, t, rfl, ft7.pv, ft7.short, fun D H8 _ s8 hD g8 => ⟨_, _, rfl, ?_⟩, fun ws D a' H' e => by rw [e6] at e; exact nomatch e⟩
          refine ⟨_, rfl, rfl, _, rfl, iteT ⟨_, rfl, (by show 2 ≤ sizeLine; omega), fun l hl => ?_⟩⟩
          have s9 := s8.trans (same_new (o := .lst [.str (Str.ofString "invalid"), t]) hl)
          have g9 := same_new (o := .lst [.str (Str.ofString "invalid"), t]) hl D _ g8
          refine ⟨_, rfl, t, dt, rfl, a1.same s9, a2, by omega, by omega, _, rfl, rfl, _, rfl, eq0 ?_⟩
          refine ⟨_, rfl, .ref D, dI, rfl, i1 _ _ s9 g9, i2, i3, i4, _, rfl, .ref l, dI, rfl, i1 _ _ s9 upd_same, i2, i3, i4, rfl, _, rfl, eq0 ?_⟩
          have bt9 : But H5 (upd H8 l (.lst [.str (Str.ofString "invalid"), t])) t := fun q o hq h => s9 q o (bt7 q o hq h)
          have ft9 := ft7.same s9
          have tD : V.ref D ≠ t := ft7.ne hD
          clear i1 i2 i3 i4
          generalize upd H8 l (.lst [.str (Str.ofString "invalid"), t]) = G at bt9 ft9 g9
          refine ⟨_, rfl, D, _, _, _, rfl, rfl, SqL.of g9, atI_nat (j := 1) rfl, t, _, rfl, .inr (.inr (.inr (.inl rfl))), ft9.pv, _, rfl, ?_⟩
          refine iteB (fun c => ?_) (fun c => ?_)
          · rcases ft9 with h | ⟨b, o, rfl, h, f⟩
            · rcases h.kd (H := G) with e | e | e | e <;> (rw [e] at c; exact absurd c (by decide +kernel))
            · have e1 : kind G (.ref b) = kindO (G b) := rfl
              rcases f with ⟨ys, rfl, l, sc⟩ | ⟨ys, rfl, l, sc⟩ | rfl | rfl
              · have Db : D ≠ b := fun z => tD (by rw [z])
                refine ⟨_, rfl, D, _, _, _, rfl, rfl, SqL.of g9, atI_nat (j := 1) rfl, .inl ⟨rfl, _, SqL.of h⟩, b, _, _, rfl, rfl, h, by omega, ?_⟩
                have fn : Fl (2 + j + 1) (upd G b (.lst (ys ++ [.str (Str.ofString "more")]))) (.ref b) := .inr ⟨b, _, rfl, upd_same, .inl ⟨_, rfl, by rw [List.length_append]; show ys.length + 1 ≤ _; omega, fun v hv => by
                  rcases List.mem_append.mp hv with h | h
                  · exact sc v h
                  · rw [List.mem_singleton.mp h]
                    exact (Tx.of (by decide +kernel) : Tx 3000 (Str.ofString "more"))⟩⟩
                have bn : But H5 (upd G b (.lst (ys ++ [.str (Str.ofString "more")]))) (.ref b) := fun q o hq h => by
                  rw [upd_ne (fun z => hq (by rw [z]))]
                  exact bt9 q o hq h
                have gn : upd G b (.lst (ys ++ [.str (Str.ofString "more")])) D = some (.lst [.str (Str.ofString "invalid"), .ref b]) := by rw [upd_ne Db]; exact g9
                obtain ⟨du, u1, u2, u3, u4⟩ := (fn).da (K := K) (by omega)
                exact ⟨_, rfl, rfl, _, rfl, iteT ⟨_, rfl, D, _, _, _, rfl, rfl, SqL.of (gn), atI_nat (j := 1) rfl, .ref b, du, rfl, u1, u2, by omega, by omega, _, rfl, .ref b, du, rfl, u1, u2, by omega, by omega, rfl, _, rfl, eq0 ⟨_, _, _, _, rfl, bn, (fn).mono (by omega)⟩⟩⟩
              · rw [e1, h] at c
                exact absurd (show inst "list" Kind.tup = true from c) (by decide +kernel)
              all_goals
                rw [e1, h] at c
                exact absurd (show inst "list" Kind.dct = true from c) (by decide +kernel)
          · have fn : Fl (2 + j + 1) G t := ft9.mono (by omega)
            obtain ⟨du, u1, u2, u3, u4⟩ := (fn).da (K := K) (by omega)
            exact ⟨_, rfl, rfl, _, rfl, iteT ⟨_, rfl, D, _, _, _, rfl, rfl, SqL.of (g9), atI_nat (j := 1) rfl, t, du, rfl, u1, u2, by omega, by omega, _, rfl, t, du, rfl, u1, u2, by omega, by omega, rfl, _, rfl, eq0 ⟨_, _, _, _, rfl, bt9, (fn).mono (by omega)⟩⟩⟩
        · rintro _ H7 ⟨o7, o8, o9, o10, rfl, bt7, ft7⟩
          exact ⟨_, _, _, _, _, _, rfl, bt7 _ _ Rt r5, pl5.but pt farT bt7, nxt _ bt7⟩
      · obtain ⟨x, rfl⟩ : ∃ x, t = .str x := by
          cases t with
          | str x => exact ⟨x, rfl⟩
          | _ => exact nomatch e6
        have tx : Tx 3000 x := sh5 x rfl
        have wsx : (∀ y ∈ ws, Tx 3000 y) ∧ ws.length ≤ 3001 ∧ (ws.map (·.length)).sum ≤ 3000 := by
          have txl := tx.len
          rcases due_is e6 with rfl | rfl
          · exact ⟨(fun y hy => nomatch hy), Nat.zero_le _, Nat.zero_le _⟩
          · refine ⟨pcs_tx tx, ?_, ?_⟩
            · have := wds_len x
              unfold wds
              rw [List.length_map]
              omega
            · have := wds_sum x
              omega
        obtain ⟨dR, q1, q2, q3, q4⟩ := ret_da (K := K) (g := Str.ofString "returned") (Tx.of (by decide +kernel)) wsx.1 wsx.2.1 wsx.2.2
        refine ⟨2, rfl, by decide, by decide, ?_⟩
        refine for_range (fun j σ H' => ∃ o7 o8 o9 o10, σ = [some (.ref a), some (.int (0 + (i : Nat))), some (.ref p), some (.str sigs), some (.int (0 + (i' : Nat))), some (.str x), some (.ref D6), o7, o8, o9, o10] ∧ Same H6 H') ⟨_, _, _, _, rfl, fun _ _ h => h⟩ ?_ ?_
        · rintro j _ H7 hj ⟨o7, o8, o9, o10, rfl, s7⟩
          obtain ⟨dt, a1, a2, a3, a4⟩ := (show Sc (.str x) from tx).da (K := K) (H := H7)
          refine ⟨_, rfl, .str x, dt, rfl, a1, a2, by omega, by omega, _, rfl, .str x, rfl, (fun z => nomatch z), sh5, (fun D H8 e => by rw [e6] at e; exact nomatch e), fun ws' D b H8 e s8 hD hb8 ne gD gb => ⟨_, _, rfl, ?_⟩⟩
          rw [e6] at e
          cases Option.some.inj e
          have nn : decide (V.ref D6 = V.non) = false := rfl
          refine ⟨_, rfl, rfl, _, rfl, iteF ⟨_, rfl, (by show 2 ≤ sizeLine; omega), fun l hl => ?_⟩⟩
          have sl := same_new (o := .lst [.str (Str.ofString "returned"), .ref D6]) hl
          have s9 := s8.trans sl
          refine ⟨_, rfl, .str x, dt, rfl, a1.same s9, a2, by omega, by omega, _, rfl, rfl, _, rfl, eq0 ?_⟩
          refine ⟨_, rfl, .ref D, dR, rfl, q1 _ _ b (sl _ _ gD) (sl _ _ gb), q2, q3, q4, _, rfl, .ref l, dR, rfl, q1 _ _ D6 upd_same (s9 _ _ (s7 _ _ g6)), q2, q3, q4, rfl, _, rfl, eq0 ?_⟩
          have gD9 := sl _ _ gD
          have gb9 := sl _ _ gb
          generalize upd H8 l (.lst [.str (Str.ofString "returned"), .ref D6]) = G at s9 gD9 gb9
          have kb : kind G (.ref b) = .lst := by
            show kindO (G b) = .lst
            rw [gb9]
            rfl
          refine ⟨_, rfl, D, _, _, _, rfl, rfl, SqL.of gD9, atI_nat (j := 1) rfl, .ref b, _, rfl, .inr (.inr (.inr (.inl rfl))), (by unfold Pv; rw [kb]; exact fun z => nomatch z), _, rfl, ?_⟩
          rw [kb]
          refine iteB (fun _ => ?_) (fun c => absurd (show inst "list" Kind.lst = false from c) (by decide +kernel))
          refine ⟨_, rfl, D, _, _, _, rfl, rfl, SqL.of gD9, atI_nat (j := 1) rfl, .inl ⟨rfl, _, SqL.of gb9⟩, b, _, _, rfl, rfl, gb9, (by rw [List.length_map]; have := wsx.2.1; omega), ?_⟩
          refine ⟨_, rfl, rfl, _, rfl, iteF (iteF ⟨_, _, _, _, rfl, fun q o h => ?_⟩)⟩
          have h7 := s7 q o h
          have qb : q ≠ b := fun z => by rw [z, hb8] at h7; exact nomatch h7
          rw [upd_ne qb]
          exact s9 q o h7
        · rintro _ H7 ⟨o7, o8, o9, o10, rfl, s7⟩
          have s57 := s6.trans s7
          exact ⟨_, _, _, _, _, _, rfl, s57 _ _ r5, pl5.same s57, nxt _ (fun q o _ h => s57 q o h)⟩
    · rintro _ H5 ⟨o5, o6, o7, o8, o9, o10, rfl, r5, pl5, _⟩
      exact ⟨_, _, _, _, _, _, _, rfl, pl5⟩
  · rintro _ H3 ⟨o4, o5, o6, o7, o8, o9, o10, rfl, pl3⟩
    exact ⟨_, _, _, _, _, _, _, _, _, _, rfl, pl3.s.seq h1⟩
end
end K3

namespace K3
open PySem PySem.Spec PyProof.Rows L2 Gd
theorem exm_selfG {K : PySem.W.Frag} {S : Addr} (h1 : PySem.W.subIn K (.ref S) (.type "BaseException") = some true) (h2 : PySem.W.isClsIn K S = true) (h3 : PySem.W.typeIn K (.ref S) = some (.type "type")) (h4 : PySem.W.subIn K (.ref S) (.ref S) = some true) :
    PySem.W.exmOne K (.ref S) (.ref S) = some true := by
  have e1 : (PySem.W.subIn K (.ref S) (.type "BaseException") == some true) = true := by rw [h1] <;> rfl
  have e2 : ((PySem.W.clsIn K S).isSome && PySem.W.typeIn K (.ref S) == some (.type "type")) = true := by
    have h2' : (PySem.W.clsIn K S).isSome = true := h2
    rw [h2', h3] <;> rfl
  show (if (PySem.W.subIn K (.ref S) (.type "BaseException") == some true) = true then (if ((PySem.W.clsIn K S).isSome && PySem.W.typeIn K (.ref S) == some (.type "type")) = true then PySem.W.subIn K (.ref S) (.ref S) else none) else none) = some true
  rw [if_pos e1, if_pos e2]
  exact h4
open PySem.W in
theorem all_mk {P : Program} {w : World} {K : PySem.W.Frag} {h : Heap} {mg : Str → Option Value} {fa : Addr} (X : K.In h) (G : h.Ns mainGlobals mg) (hfa : mg "law" = some (.ref fa))
    {f0 : Addr} {od0 an0 : Option Addr} {sl0 : Array (Option Value)} {oc0 kV0 dc0 pm0 cd0 ct0 : Value}
    {f1 : Addr} {od1 an1 : Option Addr} {sl1 : Array (Option Value)} {oc1 kV1 dc1 pm1 cd1 ct1 : Value}
    {f2 : Addr} {od2 an2 : Option Addr} {sl2 : Array (Option Value)} {oc2 kV2 dc2 pm2 cd2 ct2 : Value}
    {f3 : Addr} {od3 an3 : Option Addr} {sl3 : Array (Option Value)} {oc3 kV3 dc3 pm3 cd3 ct3 : Value}
    {f4 : Addr} {od4 an4 : Option Addr} {sl4 : Array (Option Value)} {oc4 kV4 dc4 pm4 cd4 ct4 : Value}
    {f5 : Addr} {od5 an5 : Option Addr} {sl5 : Array (Option Value)} {oc5 kV5 dc5 pm5 cd5 ct5 : Value}
    {f6 : Addr} {od6 an6 : Option Addr} {sl6 : Array (Option Value)} {oc6 kV6 dc6 pm6 cd6 ct6 : Value}
    {f7 : Addr} {od7 an7 : Option Addr} {sl7 : Array (Option Value)} {oc7 kV7 dc7 pm7 cd7 ct7 : Value}
    {f8 : Addr} {od8 an8 : Option Addr} {sl8 : Array (Option Value)} {oc8 kV8 dc8 pm8 cd8 ct8 : Value}
    {f9 : Addr} {od9 an9 : Option Addr} {sl9 : Array (Option Value)} {oc9 kV9 dc9 pm9 cd9 ct9 : Value}
    {CI gI NI : Addr} {nmI qI : Str} {bsI : List Value} {snI : List Str} {subI : List Value} {abI : Bool} {colI : Option Bool} {ddI : Option Addr} {m0I m1I m2I m3I m5I : Option Value} {bmI : List Value} {ocI dcI pmI cdI ctI : Value} {odI anI : Option Addr} {slI : Array (Option Value)} {p1I p2I q1I q2I q3I q4I : Pos}
    (a0 : PySem.W.nsIn K mainGlobals "split_words" = some (some (.ref f0)))
    (l0 : K.lookup f0 = some ⟨oc0, od0, .func (PySem.W.fnOf "split_words" "split_words" (defArgs ssplit_words) (defBody ssplit_words) (defScope ssplit_words) .none kV0 dc0 pm0 an0 cd0 ct0), sl0⟩)
    (c0 : PySem.W.codeIn K cd0 "split_words" = true)
    (k0 : PySem.W.keepIn K (.ref f0) = true)
    (a1 : PySem.W.nsIn K mainGlobals "_law_cell" = some (some (.ref f1)))
    (l1 : K.lookup f1 = some ⟨oc1, od1, .func (PySem.W.fnOf "_law_cell" "_law_cell" (defArgs s_law_cell) (defBody s_law_cell) (defScope s_law_cell) .none kV1 dc1 pm1 an1 cd1 ct1), sl1⟩)
    (c1 : PySem.W.codeIn K cd1 "_law_cell" = true)
    (k1 : PySem.W.keepIn K (.ref f1) = true)
    (a2 : PySem.W.nsIn K mainGlobals "_law_box" = some (some (.ref f2)))
    (l2 : K.lookup f2 = some ⟨oc2, od2, .func (PySem.W.fnOf "_law_box" "_law_box" (defArgs s_law_box) (defBody s_law_box) (defScope s_law_box) .none kV2 dc2 pm2 an2 cd2 ct2), sl2⟩)
    (c2 : PySem.W.codeIn K cd2 "_law_box" = true)
    (k2 : PySem.W.keepIn K (.ref f2) = true)
    (a3 : PySem.W.nsIn K mainGlobals "_law_take" = some (some (.ref f3)))
    (l3 : K.lookup f3 = some ⟨oc3, od3, .func (PySem.W.fnOf "_law_take" "_law_take" (defArgs s_law_take) (defBody s_law_take) (defScope s_law_take) .none kV3 dc3 pm3 an3 cd3 ct3), sl3⟩)
    (c3 : PySem.W.codeIn K cd3 "_law_take" = true)
    (k3 : PySem.W.keepIn K (.ref f3) = true)
    (a4 : PySem.W.nsIn K mainGlobals "_law_signs" = some (some (.ref f4)))
    (l4 : K.lookup f4 = some ⟨oc4, od4, .func (PySem.W.fnOf "_law_signs" "_law_signs" (defArgs s_law_signs) (defBody s_law_signs) (defScope s_law_signs) .none kV4 dc4 pm4 an4 cd4 ct4), sl4⟩)
    (c4 : PySem.W.codeIn K cd4 "_law_signs" = true)
    (k4 : PySem.W.keepIn K (.ref f4) = true)
    (a5 : PySem.W.nsIn K mainGlobals "_law_due" = some (some (.ref f5)))
    (l5 : K.lookup f5 = some ⟨oc5, od5, .func (PySem.W.fnOf "_law_due" "_law_due" (defArgs s_law_due) (defBody s_law_due) (defScope s_law_due) .none kV5 dc5 pm5 an5 cd5 ct5), sl5⟩)
    (c5 : PySem.W.codeIn K cd5 "_law_due" = true)
    (k5 : PySem.W.keepIn K (.ref f5) = true)
    (a6 : PySem.W.nsIn K mainGlobals "_law_called" = some (some (.ref f6)))
    (l6 : K.lookup f6 = some ⟨oc6, od6, .func (PySem.W.fnOf "_law_called" "_law_called" (defArgs s_law_called) (defBody s_law_called) (defScope s_law_called) .none kV6 dc6 pm6 an6 cd6 ct6), sl6⟩)
    (c6 : PySem.W.codeIn K cd6 "_law_called" = true)
    (k6 : PySem.W.keepIn K (.ref f6) = true)
    (a7 : PySem.W.nsIn K mainGlobals "_law_long_right" = some (some (.ref f7)))
    (l7 : K.lookup f7 = some ⟨oc7, od7, .func (PySem.W.fnOf "_law_long_right" "_law_long_right" (defArgs s_law_long_right) (defBody s_law_long_right) (defScope s_law_long_right) .none kV7 dc7 pm7 an7 cd7 ct7), sl7⟩)
    (c7 : PySem.W.codeIn K cd7 "_law_long_right" = true)
    (k7 : PySem.W.keepIn K (.ref f7) = true)
    (a8 : PySem.W.nsIn K mainGlobals "_law_lines" = some (some (.ref f8)))
    (l8 : K.lookup f8 = some ⟨oc8, od8, .func (PySem.W.fnOf "_law_lines" "_law_lines" (defArgs s_law_lines) (defBody s_law_lines) (defScope s_law_lines) .none kV8 dc8 pm8 an8 cd8 ct8), sl8⟩)
    (c8 : PySem.W.codeIn K cd8 "_law_lines" = true)
    (k8 : PySem.W.keepIn K (.ref f8) = true)
    (a9 : PySem.W.nsIn K mainGlobals "law" = some (some (.ref f9)))
    (l9 : K.lookup f9 = some ⟨oc9, od9, .func (PySem.W.fnOf "law" "law" (defArgs slaw) (defBody slaw) (defScope slaw) .none kV9 dc9 pm9 an9 cd9 ct9), sl9⟩)
    (c9 : PySem.W.codeIn K cd9 "law" = true)
    (k9 : PySem.W.keepIn K (.ref f9) = true)
    (nbk : PySem.W.nsIn K cStatics sharingNotToldKey = some none)
    (aCI : PySem.W.nsIn K mainGlobals "InvalidLine" = some (some (.ref CI)))
    (xLI : K.lookup CI = some (excClassObj nmI qI CI NI bsI bmI true snI subI abI colI ddI m0I m1I m2I m3I m5I "ValueError.__new__"))
    (vbI : PySem.HandSPX.refsVE bmI = true)
    (saI : PySem.W.findIn K (.ref CI) "__setattr__" = some (some (.builtin "object.__setattr__")))
    (gaI : PySem.W.findIn K (.ref CI) "__getattribute__" = some (some (.builtin "BaseException.__getattribute__")))
    (ggI : PySem.W.findIn K (.ref CI) "__getattr__" = some none)
    (nbI : PySem.W.findIn K (.ref CI) "value" = some none)
    (iCI : PySem.W.findIn K (.ref CI) "__init__" = some (some (.ref gI)))
    (tfI : PySem.W.typeIn K (.ref gI) = some (.type "function"))
    (lfI : K.lookup gI = some ⟨ocI, odI, .func (PySem.W.fnOf "__init__" "InvalidLine.__init__" (PySem.EzValue.iA p1I p2I) (PySem.EzValue.iB q1I q2I q3I q4I) PySem.EzValue.iS .none .none dcI pmI anI cdI ctI), slI⟩)
    (cfI : PySem.W.codeIn K cdI "InvalidLine.__init__" = true)
    (kCI : PySem.W.keepIn K (.ref CI) = true)
    (eCI : PySem.W.subIn K (.ref CI) (.type "BaseException") = some true)
    (tCI : PySem.W.typeIn K (.ref CI) = some (.type "type"))
    (hCI : PySem.W.hasDictIn K CI = true)
    (jCI : PySem.W.isClsIn K CI = true)
    (sCI : PySem.W.subIn K (.ref CI) (.ref CI) = some true)
    (z_isinstance : PySem.W.nsIn K mainGlobals "isinstance" = some none)
    (z_str : PySem.W.nsIn K mainGlobals "str" = some none)
    (z_list : PySem.W.nsIn K mainGlobals "list" = some none)
    (z_len : PySem.W.nsIn K mainGlobals "len" = some none)
    (z_max : PySem.W.nsIn K mainGlobals "max" = some none)
    (z_min : PySem.W.nsIn K mainGlobals "min" = some none)
    (z_range : PySem.W.nsIn K mainGlobals "range" = some none)
    (z_repr : PySem.W.nsIn K mainGlobals "repr" = some none)
    (z_int : PySem.W.nsIn K mainGlobals "int" = some none)
    (z_bool : PySem.W.nsIn K mainGlobals "bool" = some none)
    (z_dict : PySem.W.nsIn K mainGlobals "dict" = some none)
    (z_all : PySem.W.nsIn K mainGlobals "all" = some none)
    : ∃ fd : FuncData, (∀ (s : Shared) (u : Value), BindsTo s fd ⟨[u], []⟩ [("_law_script", u)]) ∧ ∀ base : Heap, K.In base → base.Ns mainGlobals mg → SysIn base → FnG P w K mg base CX0 6 fa fd ["_law_script"] (spLaw K) := by
  have e := hfa.symm.trans (PySem.W.mg_of X G a9)
  cases e
  have lowI : PySem.EzValue.LowTxt K mg "InvalidLine" "InvalidLine.__init__" CI gI :=
    { gC := PySem.W.mg_of X G aCI, cls := ⟨nmI, qI, NI, bsI, bmI, snI, subI, abI, colI, ddI, m0I, m1I, m2I, m3I, m5I, xLI, vbI⟩, sa := saI, ga := gaI, gg := ggI, noN := nbI, iC := iCI, tC := tfI, kC := kCI, exC := eCI, tyC := tCI, hdC := hCI,
      te := exm_selfG eCI jCI tCI sCI, fn := ⟨_, _, _, _, _, _, _, _, _, _, _, _, _, _, lfI, cfI⟩ }
  have F0 := fun_mk (st := ssplit_words) l0 c0 k0
  have m0 := PySem.W.mg_of X G a0
  have F1 := fun_mk (st := s_law_cell) l1 c1 k1
  have m1 := PySem.W.mg_of X G a1
  have F2 := fun_mk (st := s_law_box) l2 c2 k2
  have m2 := PySem.W.mg_of X G a2
  have F3 := fun_mk (st := s_law_take) l3 c3 k3
  have m3 := PySem.W.mg_of X G a3
  have F4 := fun_mk (st := s_law_signs) l4 c4 k4
  have m4 := PySem.W.mg_of X G a4
  have F5 := fun_mk (st := s_law_due) l5 c5 k5
  have m5 := PySem.W.mg_of X G a5
  have F6 := fun_mk (st := s_law_called) l6 c6 k6
  have m6 := PySem.W.mg_of X G a6
  have F7 := fun_mk (st := s_law_long_right) l7 c7 k7
  have m7 := PySem.W.mg_of X G a7
  have F8 := fun_mk (st := s_law_lines) l8 c8 k8
  have m8 := PySem.W.mg_of X G a8
  have F9 := fun_mk (st := slaw) l9 c9 k9
  have m9 := PySem.W.mg_of X G a9
  have b0 := F0.binds (ps := ["line"]) fun _ _ _ _ _ _ us hl => match us, hl with | [_], _ => rfl
  have b1 := F1.binds (ps := ["_law_script", "_law_k"]) fun _ _ _ _ _ _ us hl => match us, hl with | [_, _], _ => rfl
  have b2 := F2.binds (ps := ["_law_cell_here"]) fun _ _ _ _ _ _ us hl => match us, hl with | [_], _ => rfl
  have b3 := F3.binds (ps := ["_law_box_here", "_law_size"]) fun _ _ _ _ _ _ us hl => match us, hl with | [_, _], _ => rfl
  have b4 := F4.binds (ps := []) fun _ _ _ _ _ _ us hl => match us, hl with | [], _ => rfl
  have b5 := F5.binds (ps := ["_law_typed"]) fun _ _ _ _ _ _ us hl => match us, hl with | [_], _ => rfl
  have b6 := F6.binds (ps := ["_law_typed"]) fun _ _ _ _ _ _ us hl => match us, hl with | [_], _ => rfl
  have b7 := F7.binds (ps := ["_law_box_here", "_law_signs_here"]) fun _ _ _ _ _ _ us hl => match us, hl with | [_, _], _ => rfl
  have b8 := F8.binds (ps := ["_law_box_here", "_law_signs_here"]) fun _ _ _ _ _ _ us hl => match us, hl with | [_, _], _ => rfl
  have b9 := F9.binds (ps := ["_law_script"]) fun _ _ _ _ _ _ us hl => match us, hl with | [_], _ => rfl
  have bk : ∃ g, KBn K (PySem.W.fnOf "split_words" "split_words" (defArgs ssplit_words) (defBody ssplit_words) (defScope ssplit_words) .none kV0 dc0 pm0 an0 cd0 ct0) ["line"] 0 ["line"] g (fun _ zs => zs) :=
    ⟨fun _ ws => ws, ⟨fun s us ws X l1 l2 => match us, ws, l1, l2 with | [], [u], _, _ => BindsTo.of_eq rfl, fun _ r2 => r2⟩⟩
  refine ⟨PySem.W.fnOf "law" "law" (defArgs slaw) (defBody slaw) (defScope slaw) .none kV9 dc9 pm9 an9 cd9 ct9, fun s u => .of_eq rfl, fun base _ _ hs => ?_⟩
  have T : Txt K mg base CI gI := { sys := hs, e_InvalidLine := lowI, nb := nbk, z_isinstance := PySem.W.mg_none_of X G z_isinstance, z_str := PySem.W.mg_none_of X G z_str, z_list := PySem.W.mg_none_of X G z_list, z_len := PySem.W.mg_none_of X G z_len, z_max := PySem.W.mg_none_of X G z_max, z_min := PySem.W.mg_none_of X G z_min, z_range := PySem.W.mg_none_of X G z_range, z_repr := PySem.W.mg_none_of X G z_repr, z_int := PySem.W.mg_none_of X G z_int, z_bool := PySem.W.mg_none_of X G z_bool, z_dict := PySem.W.mg_none_of X G z_dict, z_all := PySem.W.mg_none_of X G z_all }
  have G0 := ok_split (P := P) (w := w) F0 T
  have D1 : Df P w K mg base CX0 1 "_law_cell" _ _ ["_law_script", "_law_k"] (spScr K) := ⟨ok_cell F1 T, m1, k1, b1⟩
  have D2 : Df P w K mg base CX0 1 "_law_box" _ _ ["_law_cell_here"] spBox := ⟨ok_box F2 T, m2, k2, b2⟩
  have D3 : Df P w K mg base CX0 1 "_law_take" _ _ ["_law_box_here", "_law_size"] spTake := ⟨ok_take F3, m3, k3, b3⟩
  have D4 : Df P w K mg base CX0 1 "_law_signs" _ _ [] spSigns := ⟨ok_signs F4 T, m4, k4, b4⟩
  have D5 : Df P w K mg base CX0 4 "_law_due" _ _ ["_law_typed"] spDue := ⟨ok_due F5 T, m5, k5, b5⟩
  have D6 : Df P w K mg base CX0 5 "_law_called" _ _ ["_law_typed"] spCalled := ⟨ok_called F6 T ⟨G0, m0, k0, b0⟩, m6, k6, b6⟩
  have D7 : Df P w K mg base CX0 5 "_law_long_right" _ _ ["_law_box_here", "_law_signs_here"] spLong := ⟨ok_long F7 T D3 ⟨G0, m0, k0, b0⟩ ⟨G0, m0, k0, bk⟩, m7, k7, b7⟩
  have D8 : Df P w K mg base CX0 5 "_law_lines" _ _ ["_law_box_here", "_law_signs_here"] spLines := ⟨ok_lines F8 T D3, m8, k8, b8⟩
  exact ok_law F9 T D1 D2 D4 D7 D8 D5 D6
theorem walk {l : PySem.W.OpenLaw} {q : Program} {loose : List Str} {XP : (Str → Option Value) → Heap → Prop} {YP : World → Heap → Prop} {d : DefRec} {K : Params → PySem.W.Frag} (hn : l.most = some 63) (hdf : d.params.defaults = []) (himp : importsNone q = true)
    (hY : ∀ (w : World) (h : Heap), YP w h → (K w.params).In h)
    (F : ∀ (w : World) (mg : Str → Option Value) (fa : Addr) (h : Heap), (K w.params).In h → h.Ns mainGlobals mg → mg d.name = some (.ref fa) →
      ∃ fd : FuncData, (∀ (s : Shared) (u : Value), BindsTo s fd ⟨[u], []⟩ [("_law_script", u)]) ∧ ∀ base : Heap, (K w.params).In base → base.Ns mainGlobals mg → SysIn base → FnG l.prog w (K w.params) mg base CX0 6 fa fd ["_law_script"] (spLaw (K w.params))) :
    PySem.W.WalkO q loose XP YP l.row.toRowW d [] (fun f vs => PySem.call f vs) :=
  Gd.walkG (n := 63) (k := 6) (x := "_law_script") (CX := fun _ => CX0) (sp := fun w => spLaw (K w.params)) hn (by decide) hdf ⟨rfl, by decide, by decide⟩ himp hY F
    (fun _ _ a ns hl _ hS => ⟨a, ns, rfl, hS, hl, fun _ => rfl⟩) fun _ _ _ _ _ z => z
end K3
open PySem PySem.W PyProof.Rows
set_option maxRecDepth 100000 in
set_option maxHeartbeats 0 in
theorem PySem.Challenge.cw_formatrepair_k03_words_of_lines_holds : PySem.Challenge.rw_formatrepair_k03_words_of_lines.Holds := by
  w_on; o_law; k_head; (case hw => w_witness2)
  k_fill
  refine K3.walk (l := PySem.Challenge.rw_formatrepair_k03_words_of_lines) rfl rfl rfl (fun w h Y => PySem.W.kIn_of Y) ?F
  case F =>
    intro w mg fa h KX G hmg
    refine' K3.all_mk KX G hmg ?a0 ?l0 ?c0 ?k0 ?a1 ?l1 ?c1 ?k1 ?a2 ?l2 ?c2 ?k2 ?a3 ?l3 ?c3 ?k3 ?a4 ?l4 ?c4 ?k4 ?a5 ?l5 ?c5 ?k5 ?a6 ?l6 ?c6 ?k6 ?a7 ?l7 ?c7 ?k7 ?a8 ?l8 ?c8 ?k8 ?a9 ?l9 ?c9 ?k9 ?nbk ?aCI ?xLI ?vbI ?saI ?gaI ?ggI ?nbI ?iCI ?tfI ?lfI ?cfI ?kCI ?eCI ?tCI ?hCI ?jCI ?sCI ?z_isinstance ?z_str ?z_list ?z_len ?z_max ?z_min ?z_range ?z_repr ?z_int ?z_bool ?z_dict ?z_all
    (case a0 => k_is)
    (case l0 => k_is)
    (case c0 => k_is)
    (case k0 => k_is)
    (case a1 => k_is)
    (case l1 => k_is)
    (case c1 => k_is)
    (case k1 => k_is)
    (case a2 => k_is)
    (case l2 => k_is)
    (case c2 => k_is)
    (case k2 => k_is)
    (case a3 => k_is)
    (case l3 => k_is)
    (case c3 => k_is)
    (case k3 => k_is)
    (case a4 => k_is)
    (case l4 => k_is)
    (case c4 => k_is)
    (case k4 => k_is)
    (case a5 => k_is)
    (case l5 => k_is)
    (case c5 => k_is)
    (case k5 => k_is)
    (case a6 => k_is)
    (case l6 => k_is)
    (case c6 => k_is)
    (case k6 => k_is)
    (case a7 => k_is)
    (case l7 => k_is)
    (case c7 => k_is)
    (case k7 => k_is)
    (case a8 => k_is)
    (case l8 => k_is)
    (case c8 => k_is)
    (case k8 => k_is)
    (case a9 => k_is)
    (case l9 => k_is)
    (case c9 => k_is)
    (case k9 => k_is)
    (case nbk => k_is)
    (case aCI => k_is)
    (case xLI => k_is)
    (case vbI => decide +kernel)
    (case saI => k_is)
    (case gaI => k_is)
    (case ggI => k_is)
    (case nbI => k_is)
    (case iCI => k_is)
    (case tfI => k_is)
    (case lfI => k_is)
    (case cfI => k_is)
    (case kCI => k_is)
    (case eCI => k_is)
    (case tCI => k_is)
    (case hCI => k_is)
    (case jCI => k_is)
    (case sCI => first | rfl | k_is)
    (case z_isinstance => k_is)
    (case z_str => k_is)
    (case z_list => k_is)
    (case z_len => k_is)
    (case z_max => k_is)
    (case z_min => k_is)
    (case z_range => k_is)
    (case z_repr => k_is)
    (case z_int => k_is)
    (case z_bool => k_is)
    (case z_dict => k_is)
    (case z_all => k_is)
