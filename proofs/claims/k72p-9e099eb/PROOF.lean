import PyProof.Rows.All
import Wide.All
import OpenK.AllK
import Wide.FinOn
import PyProof.ReprRoads
import HandS.Base
import HandS.Call
import HandS.List
import HandS.Dict
import HandS.Ends
import HandS.Words
import HandS.Exc
import HandS.ExcOwn
import HandS.TryOnly
import HandS.TryMany
import HandS.Defaults
import PyProof.StrLawsRepr
import HandS.Wide
import HandS.Comp
import HandS.Iter
import HandS.Text
import HandS.More
import HandS.Style
import HandS.StrMore
import HandS.IsInst
import HandS.Replace
import HandS.RaiseMore
import HandS.WordsList
import HandS.WordsDict
import HandS.WordsExc
import HandS.Walk
import HandS.Codes
import PyProof.Rows.StrFin3
import KE.IntTextLaws
import PyProof.StrLawsAffix
import HandS.ExcValue
import KE.KExcIs
import HandS.Zip0
import HandS.Zip
import HandS.Star
import HandS.SortKw
import HandS.FStr
import HandS.Strs
import HandS.SetBool
import PyProof.SetRoads
import HandS.Lambda
import HandS.SetFor
import PyProof.EqKinds
import PyProof.Rows.CountFlat
import KE.KNest
import PySem.Challenge.RW_formatrepair_k72_texts_of_scripts_patter
set_option Elab.async false
set_option linter.all false
set_option maxRecDepth 100000
set_option maxHeartbeats 4000000
namespace Gd
open PySem PySem.Spec PyProof.Rows L2
/-- no repr is under way -/
def Clean (A : Around) : Prop := A.guards = some []
/-- a contract that holds where no repr is under way -/
structure FnG (P : Program) (w : World) (K : PySem.W.Frag) (mg : Str → Option Value) (base : Heap) (CX : CXT) (k : Nat) (f : Addr) (fd : FuncData) (ps : List Str) (sp : Sp) : Prop where
  len : ∀ vs H Q E, sp vs H Q E → vs.length = ps.length
  run : ∀ (A : Around) (outer : List Env) (s : Shared) (H : Hp) (args : Args) (us : List Value) (vs : List V) (Q : VK) (E : XK), Clean A → Room k A →
    Env0 P w K mg base A outer s H → BindsTo s fd args (ps.zip us) → Vals vs us → sp vs H Q E →
    codeAny (model P w) A (.call (.ref f) args) (CR CX outer P w H s Q E) s
section
variable {P : Program} {w : World} {K : PySem.W.Frag} {mg : Str → Option Value} {base : Heap} {CX : CXT} {k j : Nat} {f : Addr} {fd : FuncData} {ps : List Str} {sp : Sp}
theorem FnG.of (F : FnOk P w K mg base CX k f fd ps sp) : FnG P w K mg base CX k f fd ps sp :=
  ⟨F.len, fun A outer s H args us vs Q E _ hr e0 hb r h => F.run A outer s H args us vs Q E hr e0 hb r h⟩
theorem FnG.mono (F : FnG P w K mg base CX j f fd ps sp) (h : j ≤ k) : FnG P w K mg base CX k f fd ps sp :=
  ⟨F.len, fun A outer s H args us vs Q E hc hr e0 hb r q => F.run A outer s H args us vs Q E hc (hr.mono h) e0 hb r q⟩
/-- a def of the text keeps its contract: its body as rules, and their reading -/
theorem okG {CX : CXT} {x qual : Str} {st : Stmt} {N : List Str} (F : Fun K x qual st f fd) (S : FnScope N ps (defScope st)) (len : ∀ vs H Q E, sp vs H Q E → vs.length = ps.length)
    (hbody : ∀ (cdv : Value) (A : Around) (outer : List Env) (s : Shared) (H : Hp) (vs : List V) (Q : VK) (E : XK), Clean A → Room k (A.deeper (envOfC qual (defScope st) s.heap.objs.size f cdv)) → sp vs H Q E →
      ∃ t, PSs (cxOf CX P w K mg base N qual (defScope st) f cdv A outer s H E) (defBody st) t ∧ t { nx := fun _ H' => Q .non H', rt := Q } (start N vs) H) : FnG P w K mg base CX (k + 1) f fd ps sp := by
  obtain ⟨oc, od, kV, doc, pm, an, cdv, ct, osl, efd, lk, hcd⟩ := F.ex
  subst efd
  refine ⟨len, fun A outer s H args us vs Q E hc hr e0 hb r hsp => ?_⟩
  have bk : ∀ b o, base.get? b = some o → s.heap.get? b = some o := fun b o e => (e0.bs b o e).1
  have KX : K.In s.heap := e0.mod.kin.keeps bk
  have hkind : ∀ y ∈ ps.zip us, (defScope st).names.lookup y.1 = some .local ∨ ((defScope st).names.lookup y.1 = some .cell ∧ ((cellsFrom (s.heap.objs.size + 1) (defScope st).names []).lookup y.1).isSome = true) := by
    rintro ⟨n, v⟩ hy
    exact (S.par n (List.of_mem_zip hy).1).imp id fun q => ⟨q, PySem.W.cellsFrom_some _ _ _ (.inl q)⟩
  refine codeAny_call_function hr.depth (KX _ _ lk) rfl S.co S.gen rfl (PySem.W.codeRec_of KX hcd) (hb _ _ _ _ (wpAny_newFunctionEnv_cells S.kind hkind ?_))
  intro env he s1 x
  subst he
  refine ⟨(e0.mod.nolimit.keeps bk).keeps x.toInCall.keep, codeAny_func ?_⟩
  obtain ⟨t, ht, hq⟩ := hbody cdv A outer s H vs Q E hc (hr.deeper _) hsp
  have I := inv_start (CX := CX) (E := E) S hr.hd e0 (len _ _ _ _ hsp) r x
  refine wpAny_mono (ht.run [] s1 (start N vs) H _ I hq) (fun fl s' hs => ?_) fun _ _ z => z
  match fl, hs with
  | .ret u, ⟨v, σ', H', J, rv, q⟩ => exact ⟨v, H', J.os, J.bare, J.base, J.hok, rv, q⟩
  | .next, ⟨σ', H', J, q⟩ => exact ⟨V.non, H', J.os, J.bare, J.base, J.hok, rfl, q⟩
  | .brk, ⟨_, _, _, q⟩ => exact q.elim
  | .cont, ⟨_, _, _, q⟩ => exact q.elim
end
section
variable {X : Cx} {CX : CXT} {k : Nat} {f : Addr} {fd : FuncData} {ps ks : List Str} {sp : Sp} {dvs : List V} {ds : List Value} {E : XK} {x : Str} {p pos : Pos} {e : Expr} {es : List Expr} {t tk : TA} {kws : List Keyword}
theorem runG {pins : List (Addr × Obj)} {σ : L2.St} {H : Hp} {s : Shared} {Q : VK} {us : List Value} {vs : List V} (F : FnG X.prog X.w X.K X.mg X.base CX k f fd ps sp) (hc : Clean X.A) (hr : Room k X.A)
    (hb : Binds X.K fd ps ds) (hd : Vals dvs ds) (hx : Passes CX X E) (I : Inv X pins σ H s) (r : Vals vs us) (h : sp (vs ++ dvs) H Q E) :
    wpAny (model X.prog X.w) X.A (call (.ref f) us) (EP X pins σ Q) X.xe s := by
  have r2 := r.append hd
  have hl : (us ++ ds).length = ps.length := r2.length ▸ F.len _ _ _ _ h
  refine wpAny_call (codeAny_mono (F.run X.A X.stack s H ⟨us, []⟩ (us ++ ds) (vs ++ dvs) Q E hc hr I.env0 (hb s us I.kIn hl) r2 h) ?_)
  intro r s' hq
  match r, hq with
  | .error e, hq => exact hx pins σ H s e s' I hq
  | .ok (.ret u), hq => exact I.after hq
  | .ok .next, hq => exact False.elim hq
  | .ok .brk, hq => exact False.elim hq
  | .ok .cont, hq => exact False.elim hq
theorem pe_callG (F : FnG X.prog X.w X.K X.mg X.base CX k f fd ps sp) (hc : Clean X.A) (hr : Room k X.A) (hg : Gl X x) (hm : X.mg x = some (.ref f)) (hk : PySem.W.keepIn X.K (.ref f) = true)
    (hb : Binds X.K fd ps ds) (hd : Vals dvs ds) (hx : Passes CX X E) (ha : PA X (e :: es) t) (hdb : (x == ("__debug__" : Str)) = false := by decide)
    (he : starEach (e :: es) X.env = (false, eval e X.env) :: starEach es X.env := by rfl) (hpl : (backTo pos (starEach es X.env)).any (·.1) = false := by rfl) :
    PE X (.Call (.Name x p) (e :: es) [] pos) (tCall sp dvs E t) := by
  refine ⟨fun pins s σ H Q I h => wpAny_Call_Name_kw (ld_glob I hg hm ?_ hdb)⟩
  exact PySem.W.callWith_K (h₀ := X.base) I.ok.mod.kin hk (thn (ha.run pos pins s σ H _ I h) fun us s1 ⟨vs, H1, I1, r, q⟩ => ⟨I1.kIn, runG F hc hr hb hd hx I1 r q⟩) he hpl
end

/-! the end of a law -/
section
variable {P : Program} {w : World} {K : PySem.W.Frag} {mg mb : Str → Option Value} {CX : CXT} {k : Nat} {fa a : Addr} {fd : FuncData} {x : Str} {sp : Sp} {s : Shared} {vs : List Value} {ns : List Int}
/-- the table of modules stands in the fixed part -/
abbrev SysIn (base : Heap) : Prop := ∃ o, base.get? sysModules = some o
abbrev scriptObj (vs : List Value) : Obj := { cls := .type "list", data := .seq vs.toArray }
abbrev Done (s : Shared) (r : Result) (s' : Shared) : Prop := r = .ok (.ret (.bool true)) ∧ OldK s.heap s'.heap ∧ s'.os = s.os ∧ AllBare s'.gens
/-- from a heap in which the script alone may be tracked -/
theorem law_core (KX : K.In s.heap) (hns : s.heap.Ns mainGlobals mg) (hb : s.heap.Ns builtinsNs mb) (hbb : ∀ x : Str, x ≠ "__name__" → mb x = bootBuiltins x) (hlim : s.heap.NoLimit) (hsy : ∃ mm, s.heap.Ns sysModules mm) (hg : s.gens = #[])
    (ha : s.heap.get? a = some (scriptObj vs)) (hr : Room k callerA)
    (F : ∀ base : Heap, K.In base → base.Ns mainGlobals mg → SysIn base → FnG P w K mg base CX k fa fd [x] sp) (hbind : ∀ (s : Shared) (u : Value), BindsTo s fd ⟨[u], []⟩ [(x, u)])
    (H : Hp) (hO : Only H) (hok : HOk P w H s.heap) (hA : ∀ b, H b ≠ none → b = a) (hK : H a ≠ none → K.lookup a = none)
    (hsp : sp [.ref a] H (fun v _ => v = .bl true) fun _ _ _ => False) (hCX : ∀ e s', CX [] H s (fun _ _ _ => False) e s' → False) :
    codeAny (model P w) callerA (.call (.ref fa) ⟨[.ref a], []⟩) (Done s) s := by
  have notA : ∀ {b : Addr}, b ≠ a → H b = none := fun {b} hb => Classical.byContradiction fun q => hb (hA b q)
  have nsA : ∀ {b : Addr} {m : Str → Option Value}, s.heap.Ns b m → (hidT s.heap H).Ns b m := by
    rintro b m ⟨o, es, ep, e, d, r⟩
    have hb : b ≠ a := by
      rintro rfl
      rw [ha] at e
      cases e
      exact nomatch (d : Data.seq vs.toArray _ = Data.dict es ep)
    exact ⟨o, es, ep, hidT_get e (notA hb), d, r⟩
  have inB : K.In (hidT s.heap H) := fun b o e => hidT_get (KX b o e) (Classical.byContradiction fun q => by
    have hb := hA b q
    subst hb
    rw [hK q] at e
    exact nomatch e)
  have md : Mod K mg (hidT s.heap H) := ⟨inB, nsA hns, ⟨mb, nsA hb, hbb⟩, hlim.imp fun _ h => ⟨nsA h.1, h.2⟩⟩
  have e0 : Env0 P w K mg (hidT s.heap H) callerA [] s H :=
    ⟨rfl, md, fun b o e => of_hidT e, Nat.le_of_eq (hidT_size _ _), trivial, fun _ hb => absurd hb List.not_mem_nil, hok, .of_eq hg⟩
  have R := (F _ inB (nsA hns) (let ⟨_, q⟩ := hsy; let ⟨o, _, _, e, _⟩ := nsA q; ⟨o, e⟩)).run callerA [] s H ⟨[.ref a], []⟩ [.ref a] [.ref a] _ _ rfl hr e0 (hbind s (.ref a)) (.cons rfl .nil) hsp
  refine codeAny_mono R fun r s' h => ?_
  match r, h with
  | .error e, h => exact (hCX e s' h).elim
  | .ok .next, h => exact False.elim h
  | .ok .brk, h => exact False.elim h
  | .ok .cont, h => exact False.elim h
  | .ok (.ret u), ⟨v, H', os, bare, un, hok', r', q⟩ =>
    have q' : v = .bl true := q
    subst q'
    cases (show u = Value.bool true from r')
    refine ⟨rfl, OldK.of_keep fun b o e => ?_, os, bare⟩
    rcases hO b with z | ⟨ob, xs, z⟩
    · exact un.keep b o e z List.not_mem_nil (by simp)
    · have e1 := (hok b _ z).1
      have e2 := (hok' b _ (un.frzs b ob _ z)).1
      rw [e] at e1
      cases e1
      exact e2
theorem law_callG (KX : K.In s.heap) (hns : s.heap.Ns mainGlobals mg) (hb : s.heap.Ns builtinsNs mb) (hbb : ∀ x : Str, x ≠ "__name__" → mb x = bootBuiltins x) (hlim : s.heap.NoLimit) (hsy : ∃ mm, s.heap.Ns sysModules mm) (hg : s.gens = #[])
    (ha : s.heap.get? a = some (scriptObj vs)) (hi : IntsAre vs ns) (hl : ns.length ≤ sizeLine) (hr : Room k callerA)
    (F : ∀ base : Heap, K.In base → base.Ns mainGlobals mg → SysIn base → FnG P w K mg base CX k fa fd [x] sp) (hbind : ∀ (s : Shared) (u : Value), BindsTo s fd ⟨[u], []⟩ [(x, u)])
    (hsp : ∀ H : Hp, Only H → SqL K H a (ns.map V.int) → sp [.ref a] H (fun v _ => v = .bl true) fun _ _ _ => False) (hCX : ∀ H e s', CX [] H s (fun _ _ _ => False) e s' → False) :
    codeAny (model P w) callerA (.call (.ref fa) ⟨[.ref a], []⟩) (Done s) s := by
  have rv := vals_ints hi
  have lenV := hi.length
  cases hk : K.lookup a with
  | some o =>
    have e := KX a o hk
    rw [ha] at e
    cases e
    refine law_core KX hns hb hbb hlim hsy hg ha hr F hbind (fun _ => none) (fun _ => .inl rfl) (fun b u z => nomatch (z : (none : Option HO) = some u)) (fun _ z => absurd rfl z) (fun z => absurd rfl z) ?_ (hCX _)
    exact hsp _ (fun _ => .inl rfl) (.inr ⟨_, vs.toArray, _, hk, rfl, rfl, rfl, by rw [List.size_toArray, lenV]; exact hl, by simpa using rv⟩)
  | none =>
    have one : ∀ {b : Addr} {u : HO}, (if b = a then some (HO.frz (scriptObj vs) (.lst (ns.map V.int))) else none) = some u → b = a ∧ u = .frz (scriptObj vs) (.lst (ns.map V.int)) := by
      intro b u z
      by_cases hb : b = a
      · rw [if_pos hb] at z
        exact ⟨hb, (Option.some.inj z).symm⟩
      · rw [if_neg hb] at z
        exact nomatch z
    have only : Only fun b => if b = a then some (HO.frz (scriptObj vs) (.lst (ns.map V.int))) else none := fun b => by
      by_cases hb : b = a
      · exact .inr ⟨_, _, if_pos hb⟩
      · exact .inl (if_neg hb)
    refine law_core KX hns hb hbb hlim hsy hg ha hr F hbind _ only (fun b u z => ?_) (fun b z => ?_) (fun _ => hk) (hsp _ only (.inl (.inr ⟨scriptObj vs, if_pos rfl⟩))) (hCX _)
    · obtain ⟨rfl, rfl⟩ := one z
      exact ⟨ha, by rw [List.length_map]; exact hl, vs, _, rv, ha⟩
    · cases q : (if b = a then some (HO.frz (scriptObj vs) (.lst (ns.map V.int))) else none) with
      | none => exact absurd q z
      | some u => exact (one q).1
theorem walkG {l : PySem.W.OpenLaw} {n k : Nat} {q : Program} {loose : List Str} {XP : (Str → Option Value) → Heap → Prop} {YP : World → Heap → Prop} {d : DefRec} {K : Params → PySem.W.Frag} {CX : World → CXT} {sp : World → Sp} {x : Str}
    (hn : l.most = some n) (hn2 : n ≤ sizeLine) (hdf : d.params.defaults = []) (hr : Room k callerA) (himp : importsNone q = true) (hY : ∀ (w : World) (h : Heap), YP w h → (K w.params).In h)
    (F : ∀ (w : World) (mg : Str → Option Value) (fa : Addr) (h : Heap), (K w.params).In h → h.Ns mainGlobals mg → mg d.name = some (.ref fa) →
      ∃ fd : FuncData, (∀ (s : Shared) (u : Value), BindsTo s fd ⟨[u], []⟩ [(x, u)]) ∧
        ∀ base : Heap, (K w.params).In base → base.Ns mainGlobals mg → SysIn base → FnG l.prog w (K w.params) mg base (CX w) k fa fd [x] (sp w))
    (hsp : ∀ (w : World) (H : Hp) (a : Addr) (ns : List Int), ns.length ≤ n → Only H → SqL (K w.params) H a (ns.map V.int) → sp w [.ref a] H (fun v _ => v = .bl true) fun _ _ _ => False)
    (hCX : ∀ (w : World) (H : Hp) (s : Shared) (e : Value) (s' : Shared), CX w [] H s (fun _ _ _ => False) e s' → False) :
    PySem.W.WalkO q loose XP YP l.row.toRowW d [] (fun f vs => PySem.call f vs) := by
  refine Att.attach_call hn hdf fun w s₀ s₁ mg mb fa o pm cd doc a vs ns G Y ho hd hcd hmg hobj hints hlen hg => ?_
  obtain ⟨fd, hb, hF⟩ := F w mg fa _ (hY w _ Y) G.T.g hmg
  exact law_callG (hY w _ Y) G.T.g G.T.b G.T.builtins G.T.nolimit (let ⟨mm, q, _⟩ := (G.T.seer himp).mods; ⟨mm, q⟩) hg hobj hints (Nat.le_trans hlen hn2) hr hF hb (fun H hO hS => hsp w H a ns hlen hO hS) fun H e s' => hCX w H s₁ e s'
end
end Gd

namespace PySem
namespace EzValue
open PySem.W PySem.Calls PyProof.Rows PySem.HandSPX
/-! ### the text of __init__ -/
def iA (p1 p2 : Pos) : Arguments := { posonlyargs := [], args := [{ arg := "self", annotation := none, pos := p1 }, { arg := "value", annotation := none, pos := p2 }], vararg := none, kwonlyargs := [], kw_defaults := [], kwarg := none, defaults := [] }
def iB (q1 q2 q3 q4 : Pos) : List Stmt := [.Assign [.Attribute (.Name "self" q1) "value" q2] (.Name "value" q3) q4]
def iS : Scope := { kind := .function, names := [(PySem.Str.ofString "self", .local), (PySem.Str.ofString "value", .local)], isGenerator := false, isCoroutine := false, more := [] }
/-- what the written part says of Low, at C, and of its __init__, at fI -/
structure LowTxt (K : Frag) (mg : Str → Option Value) (nm : Str) (qn : String) (C fI : Addr) : Prop where
  gC : mg nm = some (.ref C)
  cls : ∃ nmC q N bs bm sn sub ab col dd k0 k1 k2 k3 k5, K.lookup C = some (excClassObj nmC q C N bs bm true sn sub ab col dd k0 k1 k2 k3 k5 "ValueError.__new__") ∧ refsVE bm = true
  sa : findIn K (.ref C) "__setattr__" = some (some (.builtin "object.__setattr__"))
  ga : findIn K (.ref C) "__getattribute__" = some (some (.builtin "BaseException.__getattribute__"))
  gg : findIn K (.ref C) "__getattr__" = some none
  noN : findIn K (.ref C) "value" = some none
  iC : findIn K (.ref C) "__init__" = some (some (.ref fI))
  tC : typeIn K (.ref fI) = some (.type "function")
  kC : keepIn K (.ref C) = true
  exC : subIn K (.ref C) (.type "BaseException") = some true
  tyC : typeIn K (.ref C) = some (.type "type")
  hdC : hasDictIn K C = true
  te : exmOne K (.ref C) (.ref C) = some true
  fn : ∃ (oc : Value) (od : Option Addr) (doc pm : Value) (an : Option Addr) (cdv ct : Value) (osl : Array (Option Value)) (p1 p2 q1 q2 q3 q4 : Pos),
    K.lookup fI = some ⟨oc, od, .func (fnOf "__init__" qn (iA p1 p2) (iB q1 q2 q3 q4) iS .none .none doc pm an cdv ct), osl⟩ ∧ codeIn K cdv qn = true
theorem one_size (v : Value) : [v].length ≤ sizeLine := by
  rw [sizeLine_eq]
  exact (by decide : 1 ≤ 16777216)
theorem kept_but {K : Frag} {h h' : Heap} {x : Addr} (X : K.In h) (hx : K.lookup x = none) (k : ∀ b o, b ≠ x → h.get? b = some o → h'.get? b = some o) : K.In h' := fun a o e =>
  k a o (fun z => by rw [z, hx] at e; cases e) (X a o e)
theorem ldC {M : Model} {s : Shared} {name : Str} {scope : Scope} {L a : Addr} {cd : Value} {m : Str → Option Value} {x : Str} {pos : Pos} {v : Value} {Q : Value → Shared → Prop} {A : Around} {E : Value → Shared → Prop} (hn : s.heap.Ns L m) (hv : m x = some v) (h : Q v s)
    (hk : scope.kind = .function := by rfl) (hl : (envOfC name scope L a cd).kindOf x = some .local := by rfl) (hd : (x == ("__debug__" : Str)) = false := by decide) :
    wpAny M A (eval (.Name x pos) (envOfC name scope L a cd)) Q E s := wpAny_Name (wpAny_loadName_local hk hl hn hv h) hd
/-- what __init__ leaves of a fresh exception at x -/
structure InitEnd (h h' : Heap) (x C dx t1 : Addr) (v : Value) : Prop where
  keep : ∀ b o, b ≠ x → h.get? b = some o → h'.get? b = some o
  obj : h'.get? x = some { cls := .ref C, dict := some dx, data := .fields #[.ref t1, .none, .none, .none, .bool false, .none] }
  dbig : h.objs.size ≤ dx
  dne : dx ≠ x
  ns : h'.Ns1 dx (fun y => if y = "value" then some v else none)
/-- a made Low -/
structure OwnMade (h h' : Heap) (e C d : Addr) (v : Value) : Prop where
  keep : ∀ b o, h.get? b = some o → h'.get? b = some o
  new : h.objs.size ≤ e
  obj : ∃ oe vs, h'.get? e = some oe ∧ oe.cls = .ref C ∧ oe.dict = some d ∧ oe.data = .fields vs ∧ vs[1]? = some .none
  dbig : h.objs.size ≤ d
  dne : d ≠ e
  ns : h'.Ns1 d (fun y => if y = "value" then some v else none)
section
variable {prog : Program} {w : World} {A : Around} {E : Value → Shared → Prop} {R : Result → Shared → Prop} {s : Shared} {K : Frag} {mg : Str → Option Value} {nm : Str} {qn : String} {C fI : Addr}
theorem low_init (T : LowTxt K mg nm qn C fI) {x t0 : Addr} {v : Value} (X : K.In s.heap) (hlim : s.heap.NoLimit) (hx : s.heap.get? x = some (excO C t0)) (hnx : K.lookup x = none) (hroom : A.depth < recursionLimit)
    (hq : ∀ h' tk dx, InitEnd s.heap h' x C dx t0 v → R (.ok (.ret .none)) { s with heap := h', toks := tk }) :
    codeAny (model prog w) A (.call (.ref fI) ⟨[.ref x, v], []⟩) R s := by
  obtain ⟨oc, od, doc, pm, an, cdv, ct, osl, p1, p2, q1, q2, q3, q4, ho, hcd⟩ := T.fn
  obtain ⟨nmC, q, N, bs, bm, sn, sub, ab, col, dd, k0, k1, k2, k3, k5, hC, hbm⟩ := T.cls
  have hcl : clsIn K C = some { name := nmC, bases := bs, mro := .ref C :: bm, ns := N, qualname := q, hasDict := true, slotNames := sn, subclasses := sub, abstract := ab, collection := col, hasDel := false } := by unfold clsIn; rw [hC] <;> rfl
  refine Att.call_fn (binds := [("self", .ref x), ("value", v)]) X hlim ho hcd hroom (BindsTo.of_eq (by first | rfl | with_unfolding_all rfl)) (by first | rfl | decide | with_unfolding_all rfl) (fun s₁ IC => ?_) rfl rfl rfl
  obtain ⟨h₁, tk₁, rfl⟩ := IC.toInCall.same
  have k : ∀ b o, s.heap.get? b = some o → h₁.get? b = some o := IC.toInCall.keep
  have hn := IC.toInCall.ns
  have hxL : s.heap.objs.size ≠ x := Nat.ne_of_gt (Heap.lt_size hx)
  have X₁ : K.In h₁ := X.keeps k
  have hx₁ := k _ _ hx
  -- self.by = by
  show wpAny _ _ (execs _ _) _ _ _
  refine wpAny_execs_cons (plainObj_wpAny_Assign_Attribute ?_)
  refine ldC (v := v) hn (by first | rfl | with_unfolding_all rfl | kernel_rfl) (ldC (v := .ref x) hn (by first | rfl | with_unfolding_all rfl | kernel_rfl) ?_)
  refine set_plain X₁ (ox := excO C t0) (od := none) ⟨hx₁, rfl, rfl, trivial⟩ T.sa ?_
  refine exc_osa X₁ hx₁ hcl (show refsVE (.ref C :: bm) = true from hbm) rfl T.noN (fun h₃ tk₃ dx k₃ dn dne hx₃ hn₃ => ?_)
  show wpAny _ _ (execs _ _) _ _ _
  have z : s.heap.objs.size < h₁.objs.size := hn.lt
  exact wpAny_execs_nil (hq h₃ tk₃ dx ⟨fun b o hb e => k₃ b o hb (k b o e), hx₃, Nat.le_of_lt (Nat.lt_of_lt_of_le z dn), dne, hn₃⟩)
theorem low_made (T : LowTxt K mg nm qn C fI) {v : Value} (X : K.In s.heap) (hlim : s.heap.NoLimit) (hroom : A.depth + 1 < recursionLimit)
    (hq : ∀ h' tk e d, OwnMade s.heap h' e C d v → R (.ok (.ret (.ref e))) { s with heap := h', toks := tk }) :
    codeAny (model prog w) A (.call (.ref C) ⟨[v], []⟩) R s := by
  obtain ⟨nmC, q, N, bs, bm, sn, sub, ab, col, dd, k0, k1, k2, k3, k5, hC, hbm⟩ := T.cls
  obtain ⟨hp, g, dr, tk, os⟩ := s
  have k : ∀ b o, hp.get? b = some o → ((hp.push (kdv_tup [v])).push (excO C hp.objs.size)).get? b = some o := fun b o e => Heap.get?_push_of_some _ (Heap.get?_push_of_some _ e)
  have hget : ((hp.push (kdv_tup [v])).push (excO C hp.objs.size)).get? (hp.objs.size + 1) = some (excO C hp.objs.size) := by heap_get
  have hnx : K.lookup (hp.objs.size + 1) = none := by
    cases e : K.lookup (hp.objs.size + 1) with
    | none => rfl
    | some o =>
      have z : hp.get? (hp.objs.size + 1) = some o := X _ _ e
      exact absurd (Nat.lt_of_succ_lt (Heap.lt_size z)) (Nat.lt_irrefl _)
  refine call_own F.excBase_ValueError (fun X => refsVE_contains X bm hbm) (X _ _ hC) (looks_findIn X T.iC) (fun self => bind_fn X self T.tC) (one_size v) ?_
  refine low_init (s := ⟨(hp.push (kdv_tup [v])).push (excO C hp.objs.size), g, dr, tk, os⟩) T (X.keeps k) (hlim.keeps k) hget hnx ?_ fun h' tk' dx ⟨k', hx, dn, dne, hns⟩ => ?_
  · show A.depth + 1 < recursionLimit
    exact hroom
  · have old : ∀ b o, hp.get? b = some o → h'.get? b = some o := fun b o e => k' b o (Nat.ne_of_lt (Nat.lt_succ_of_lt (Heap.lt_size e))) (k b o e)
    have z : hp.objs.size + 1 + 1 ≤ dx := by
      first
        | (simpa only [Heap.size_push] using dn)
        | exact dn
        | (have q := dn; rw [Heap.size_push, Heap.size_push] at q; exact q)
    exact ⟨rfl, hq h' tk' (hp.objs.size + 1) dx ⟨old, Nat.le_succ _, ⟨_, _, hx, rfl, rfl, rfl, rfl⟩, Nat.le_trans (Nat.le_trans (Nat.le_succ _) (Nat.le_succ _)) z, dne, hns⟩⟩
end
end EzValue
end PySem
namespace L2
open PySem PySem.Spec PyProof.Rows
theorem relO_value {v : V} {v' : Value} (r : RelV v v') (f : Str) : RelO (List.lookup f [(("value" : Str), v)]) (if f = "value" then some v' else none) := by
  by_cases hw : f = "value"
  · subst hw
    rw [if_pos rfl]
    have q : List.lookup ("value" : Str) [(("value" : Str), v)] = some v := by simp [List.lookup]
    rw [q]
    exact r
  · rw [if_neg hw]
    have qw : (f == ("value" : Str)) = false := by simpa using hw
    have q2 : List.lookup f [(("value" : Str), v)] = none := by simp [List.lookup, qw]
    rw [q2]
    trivial
section
variable {X : Cx} {nm : Str} {qn : String} {C fI : Addr}
/-- Low(e) -/
def tMk_value (C : Addr) (ta : TA) : L2.St → Hp → XK → Prop := fun σ H Q => ta σ H fun vs H1 => ∃ v, vs = [v] ∧ ∀ d, H1 d = none → Q (.ref C) (some d) (upd H1 d (.xd [(("value" : Str), v)]))
theorem pmk_value {a : Expr} {ta : TA} {p pos : Pos} {k : Nat} (T : PySem.EzValue.LowTxt X.K X.mg nm qn C fI) (hr : Room k X.A) (ha : PA X [a] ta) (hg : Gl X nm := by rfl) (hdb : (nm == ("__debug__" : Str)) = false := by decide)
    (he : starEach (a :: []) X.env = (false, eval a X.env) :: starEach [] X.env := by rfl) (hpl : (backTo pos (starEach [] X.env)).any (·.1) = false := by rfl) :
    PMk X (.Call (.Name nm p) [a] [] pos) (tMk_value C ta) := by
  intro pins s σ H Q I h
  refine wpAny_Call_Name_kw (ld_glob I hg T.gC ?_ hdb)
  refine PySem.W.callWith_K (h₀ := X.base) I.ok.mod.kin T.kC (thn (ha.run pos pins s σ H _ I h) fun us s1 hh => ?_) he hpl
  obtain ⟨vs, H1, I1, r1, v, ev, q1⟩ := hh
  subst ev
  refine ⟨I1.kIn, ?_⟩
  cases r1 with
  | cons rv rn =>
    rename_i v' us'
    cases rn
    show wpAny _ _ (call (.ref C) [v']) _ _ _
    have hlim := I1.nolimit
    obtain ⟨hp, g, dr, tk, os⟩ := s1
    refine wpAny_call (PySem.EzValue.low_made T I1.kIn hlim (by have := hr.dp; omega) fun h' tk' e d M => ?_)
    show MkP X pins σ Q (.ref e) ⟨h', g, dr, tk', os⟩
    obtain ⟨oe, fv, hoe, hc, hd, hdat, h1⟩ := M.obj
    have hns := M.ns
    obtain ⟨G', g1, g2⟩ := restrict h' fun b => decide (b ≠ e)
    have gk : ∀ b, b ≠ e → G'.get? b = h'.get? b := fun b hb => g1 b (decide_eq_true hb)
    have ge : G'.get? e = none := g2 e (by simp)
    have old : ∀ b o, hp.get? b = some o → G'.get? b = some o := fun b o q => (gk b (Nat.ne_of_lt (Nat.lt_of_lt_of_le (Heap.lt_size q) M.new))).trans (M.keep b o q)
    have ob : ObjOk X.prog X.w (upd H1 d (.xd [(("value" : Str), v)])) G' d (.xd [(("value" : Str), v)]) :=
      ⟨_, hns.at (fun o q => (gk d M.dne).trans q), fun f => relO_value rv f⟩
    have J : Inv X pins σ (upd H1 d (.xd [(("value" : Str), v)])) ⟨G', g, dr, tk', os⟩ := I1.laid (t' := tk') old M.dbig ob
    refine ⟨e, oe, fv, ⟨G', g, dr, tk', os⟩, _, .ref C, some d, rfl, J, fun b o q => ?_, ge, hoe, ⟨hc, hd⟩, hdat, h1, ?_, rfl, I1.bare, raises_own T.exC T.tyC, q1 d (I1.hok.fresh M.dbig)⟩
    · by_cases hb : b = e
      · have q' : G'.get? b = some o := q
        rw [hb, ge] at q'; cases q'
      · exact (gk b hb).symm.trans q
    · rw [upd_ne (Ne.symm M.dne)]
      exact I1.hok.fresh M.new
/-- raise Low(e) -/
def tRaise_value (C : Addr) (W : WX) (ta : TA) : TS := fun _ σ H => tMk_value C ta σ H fun cls d H' => W cls d σ H'
theorem ps_raise_value {a : Expr} {ta : TA} {W : WX} {p pos pos2 : Pos} {k : Nat} (hc : X.calm = true) (T : PySem.EzValue.LowTxt X.K X.mg nm qn C fI) (hr : Room k X.A) (tk : Takes X W) (ha : PA X [a] ta) (hg : Gl X nm := by rfl) (hdb : (nm == ("__debug__" : Str)) = false := by decide)
    (he : starEach (a :: []) X.env = (false, eval a X.env) :: starEach [] X.env := by rfl) (hpl : (backTo pos (starEach [] X.env)).any (·.1) = false := by rfl) :
    PS X (.Raise (some (.Call (.Name nm p) [a] [] pos)) none pos2) (tRaise_value C W ta) := ps_raise hc tk (pmk_value T hr ha hg hdb he hpl)
/-- low.by, low the exception that the suite holds (at a; its class cls, its dict d) -/
def tBy_value (C : Addr) (a : Addr) (cls : Value) (d : Option Addr) (te : TE) : TE := fun σ H Q => te σ H fun x H1 => x = .ref a ∧ cls = .ref C ∧ ∃ (dd : Addr) (v : V), d = some dd ∧ H1 dd = some (.xd [(("value" : Str), v)]) ∧ Q v H1
theorem pe_by_value {a : Addr} {oe : Obj} {cls : Value} {d : Option Addr} {pn : List (Addr × Obj)} {e : Expr} {te : TE} {pos : Pos} (T : PySem.EzValue.LowTxt X.K X.mg nm qn C fI) (hz : Zc cls d oe) (hf : ∃ vs, oe.data = .fields vs) (he : PE (X.suite a ((a, oe) :: pn)) e te)
    (hb : attributeBase e "value" X.env (eval e X.env) = eval e X.env := by rfl) :
    PE (X.suite a ((a, oe) :: pn)) (.Attribute e "value" pos) (tBy_value C a cls d te) := by
  refine ⟨fun pins s σ H Q I h => ?_⟩
  refine attr_of hb (thn (he.run pins s σ H _ I h) fun u s1 hh => ?_)
  obtain ⟨x, H1, I1, rx, ex, ec, dd, v, ed, ea, q⟩ := hh
  subst ex
  obtain rfl : u = Value.ref a := rx
  subst ec
  subst ed
  obtain ⟨ha, _⟩ := I1.pin (a, oe) (List.mem_append_left _ List.mem_cons_self)
  obtain ⟨vs, hd⟩ := hf
  have hx : ObjOk X.prog X.w H1 s1.heap dd (.xd [(("value" : Str), v)]) := I1.hok dd _ ea
  obtain ⟨mA, hns, hr⟩ := hx
  obtain ⟨od, ho, hl⟩ := lookIn_ns hns
  have l : List.lookup ("value" : Str) [(("value" : Str), v)] = some v := by simp [List.lookup]
  obtain ⟨u, hu, ru⟩ := RelO.some_of (v := v) (o := mA "value") (by rw [← l]; exact hr "value")
  have J : PySem.W.InstAt s1.heap a oe C (some od) := ⟨ha, hz.1, by unfold PySem.W.notCls; rw [hd] <;> rfl, by rw [hz.2]; exact ho⟩
  exact HandSPX.exc_get I1.kIn J T.ga T.gg T.exC (PySem.W.findObj_own T.hdC T.noN rfl (by rw [hl, hu])) (handed_of ru) ⟨v, H1, I1.tok _, ru, q⟩
end
end L2


namespace Gd
open PySem PySem.Spec PyProof.Rows L2
/-- an except clause: its class, the slot of its name, what its suite reads -/
structure Cl where
  c : Value
  i : Option Nat
  ts : Addr → Value → Option Addr → TS
/-- behind the suite of a clause with a name the name is gone -/
def gone (D : Ends) (i : Nat) : Ends :=
  { nx := fun σ H => D.nx (σ.set i none) H, rt := D.rt, bk := fun σ H => D.bk (σ.set i none) H, ct := fun σ H => D.ct (σ.set i none) H }
/-- what the suite of a clause is asked -/
def atCl (q : Cl) (D : Ends) (a : Addr) (cls : Value) (d : Option Addr) (σ : L2.St) (H : Hp) : Prop :=
  match q.i with
  | some i => q.ts a cls d (gone D i) (σ.set i (some (.ref a))) H
  | none => q.ts a cls d D σ H
/-- what the clauses wish of an exception; where none of the told ones takes it, that can't be -/
def wCl (K : PySem.W.Frag) (D : Ends) : List Cl → WX
  | [] => fun _ _ _ _ => False
  | q :: r => fun cls d σ H => ∃ b, PySem.W.exmOne K cls q.c = some b ∧ (b = true → ∀ a, H a = none → atCl q D a cls d σ H) ∧ (b = false → wCl K D r cls d σ H)
inductive HdG (X : Cx) : List ExceptHandler → List Cl → Prop
  | stop (hds : List ExceptHandler) : HdG X hds []
  | as {x n : Str} {i : Nat} {c : Value} {ts : Addr → Value → Option Addr → TS} {b₀ : Stmt} {suite : List Stmt} {np ps : Pos} {hds : List ExceptHandler} {l : List Cl} (hi : X.N[i]? = some n) (hl : X.env.kindOf n = some .local) (hc : Names X x c)
      (hsu : ∀ (a : Addr) (oe : Obj) (cls : Value) (d : Option Addr) (pn : List (Addr × Obj)), Zc cls d oe → (∃ vs, oe.data = .fields vs) → PSs (X.suite a ((a, oe) :: pn)) (b₀ :: suite) (ts a cls d)) (r : HdG X hds l) :
      HdG X (.ExceptHandler (some (.Name x np)) (some n) (b₀ :: suite) ps :: hds) (⟨c, some i, ts⟩ :: l)
  | bare {x : Str} {c : Value} {ts : Addr → Value → Option Addr → TS} {b₀ : Stmt} {suite : List Stmt} {np ps : Pos} {hds : List ExceptHandler} {l : List Cl} (hc : Names X x c)
      (hsu : ∀ (a : Addr) (oe : Obj) (cls : Value) (d : Option Addr) (pn : List (Addr × Obj)), Zc cls d oe → (∃ vs, oe.data = .fields vs) → PSs (X.suite a ((a, oe) :: pn)) (b₀ :: suite) (ts a cls d)) (r : HdG X hds l) :
      HdG X (.ExceptHandler (some (.Name x np)) none (b₀ :: suite) ps :: hds) (⟨c, none, ts⟩ :: l)
section
variable {X : Cx} {body : List Stmt} {h₀ : ExceptHandler} {hds : List ExceptHandler} {l : List Cl} {pos : Pos} {tb : WX → TS}
theorem ps_tryG (hs : X.stack = X.env :: X.outer) (hf : X.env.frame = some X.env.locals) (hN : X.N.Nodup)
    (hb : ∀ (W : WX) (pn : List (Addr × Obj)) (xe : Value → Shared → Prop), Takes (X.tr pn xe) W → PassesOwn (model X.prog X.w) X.A X.env xe → PSs (X.tr pn xe) body (tb W))
    (hh : HdG X (h₀ :: hds) l) : PS X (.Try body (h₀ :: hds) [] [] pos) (fun D σ H => tb (wCl X.K D l) D σ H) := by
  refine ⟨fun pins s σ H D I h => ?_⟩
  have ok := I.ok
  have hfr : X.A.frames = some (X.env :: X.outer) := ok.frames.trans (congrArg some hs)
  refine wpAny_Try_except (wpAny_mono ((hb (wCl X.K D l) (X.pn ++ pins) _ ?caught PassesOwn.looking).run [] s σ H D (I.toTry _) h) ?norm fun _ _ z => z)
  case norm =>
    intro f s1 hsp
    match f, hsp with
    | .next, ⟨σ', H', J, q⟩ => exact wpAny_execs_nil ⟨σ', H', J.ofTry ok, q⟩
    | .brk, ⟨σ', H', J, q⟩ => exact ⟨σ', H', J.ofTry ok, q⟩
    | .cont, ⟨σ', H', J, q⟩ => exact ⟨σ', H', J.ofTry ok, q⟩
    | .ret u, ⟨v, σ', H', J, r, q⟩ => exact ⟨v, σ', H', J.ofTry ok, r, q⟩
  case caught =>
    intro u s' xx
    obtain ⟨a, B, sI, pins', σ', H', cls, d, rfl, J', nb, up, sky, na, os, ag, w⟩ := xx
    have J : Inv X pins σ' H' sI := J'.ofTry ok
    rw [show (X.tr (X.pn ++ pins) _).stack = X.env :: X.outer from hs] at sky
    show wpAny _ X.A (noteFrame (.ref a) X.env) _ _ _
    refine Sky.land Zc.steady hfr hf sky fun h3 fl3 up3 => ?_
    have J3 : Inv X pins σ' H' { s' with heap := h3 } := J.landed nb fl3.1 (up.trans up3) os ag
    obtain ⟨oe3, vs3, he3, hz3, hd3⟩ := fl3.there
    have nfr : a ∉ frs (X.env :: X.outer) := fun hm => by
      obtain ⟨_, o, e, hn⟩ := fl3.2.2.1.mem hm
      rw [he3] at e
      cases e
      exact hn _ hd3
    have nL : a ≠ X.env.locals := fun z => nfr (List.mem_filterMap.mpr ⟨X.env, List.mem_cons_self, by rw [hf, z]⟩)
    have nF : a ∉ X.fs := fun hm => nfr (let ⟨e, he, q⟩ := List.mem_filterMap.mp hm; List.mem_filterMap.mpr ⟨e, List.mem_cons_of_mem _ he, q⟩)
    have S3 := J3.suite he3 hd3 na nL nF
    have LT : PySem.W.Looks (model X.prog X.w) h3 (typeOf (.ref a)) cls := fun A Q E s k q => wpAny_typeOf_ref (k _ _ he3) (by rw [hz3.1]; exact q)
    have test : ∀ {x : Str} {c : Value} {np : Pos} {Q E : Value → Shared → Prop}, Names X x c → Q c { s' with heap := h3 } → wpAny (model X.prog X.w) (X.A.mark (some (.ref a))) (eval (.Name x np) X.env) Q E { s' with heap := h3 } := by
      rintro x c np Q E ⟨hg, hdb, hm | ⟨hm, hv, hn⟩⟩ q
      · exact ld_glob (X := X.suite a ((a, oe3) :: (X.pn ++ pins))) S3 hg hm q hdb
      · exact ld_blt (X := X.suite a ((a, oe3) :: (X.pn ++ pins))) S3 hg hm hv q hn hdb
    suffices go : ∀ {hs : List ExceptHandler} {cl : List Cl}, HdG X hs cl → wCl X.K D cl cls d σ' H' → wpAny (model X.prog X.w) X.A (handleBy (.ref a) X.env hs) (SP X pins D) X.xe { s' with heap := h3 } from go hh w
    intro hs' cl k
    induction k with
    | stop => exact fun w => w.elim
    | @as x n i c ts b₀ suite np ps hds l hi hl hc hsu r ih =>
      rintro ⟨b, hb1, yes, no⟩
      have hb2 := PySem.W.exm_one (M := model X.prog X.w) J3.kIn LT hb1
      refine wpAny_handleBy_cons (codeAny_handlers_test (test hc (hb2.here ?_))) (fun q => nomatch q)
      cases b with
      | false => exact ih (no rfl)
      | true =>
        refine codeAny_handlers_suite_as (HandSPX.lands_againZ fl3 fun h4 fl4 up4 => ?_)
        have J4 : Inv X pins σ' H' { s' with heap := h4 } := J.landed nb fl4.1 ((up.trans up3).trans up4) os ag
        obtain ⟨oe4, vs4, he4, hz4, hd4⟩ := fl4.there
        refine store_ok (X := X.suite a ((a, oe4) :: (X.pn ++ pins))) (v := .ref a) (J4.suite he4 hd4 na nL nF) hN hi (.inl hl) rfl (fun s5 S5 => ?_) (.inr hl)
        refine wpAny_mono ((hsu a oe4 cls d (X.pn ++ pins) hz4 ⟨_, hd4⟩).run [] s5 _ H' (gone D i) S5 (yes rfl a na)) (fun f s6 hsp => ?_) fun _ _ z => z.elim
        have fin : ∀ {σ6 : L2.St} {H6 : Hp} {Q : Shared → Prop}, Inv (X.suite a ((a, oe4) :: (X.pn ++ pins))) [] σ6 H6 s6 → (∀ s7, Inv X pins (σ6.set i none) H6 s7 → Q s7) →
          wpAny (model X.prog X.w) X.A (do bindName X.env n .none; unbindBehindTheSuite X.env n ps) (fun _ s7 => Q s7) X.xe s6 := fun S6 hq => gone_ok (S6.unsuite ok) hN hi hl hq
        match f, hsp with
        | .next, ⟨σ6, H6, S6, q6⟩ => exact fin S6 fun s7 J7 => ⟨_, _, J7, q6⟩
        | .brk, ⟨σ6, H6, S6, q6⟩ => exact fin S6 fun s7 J7 => ⟨_, _, J7, q6⟩
        | .cont, ⟨σ6, H6, S6, q6⟩ => exact fin S6 fun s7 J7 => ⟨_, _, J7, q6⟩
        | .ret u, ⟨v6, σ6, H6, S6, r6, q6⟩ => exact fin S6 fun s7 J7 => ⟨_, _, _, J7, r6, q6⟩
    | @bare x c ts b₀ suite np ps hds l hc hsu r ih =>
      rintro ⟨b, hb1, yes, no⟩
      have hb2 := PySem.W.exm_one (M := model X.prog X.w) J3.kIn LT hb1
      refine wpAny_handleBy_cons (codeAny_handlers_test (test hc (hb2.here ?_))) (fun q => nomatch q)
      cases b with
      | false => exact ih (no rfl)
      | true =>
        refine codeAny_handlers_suite (HandSPX.lands_againZ fl3 fun h4 fl4 up4 => ?_)
        have J4 : Inv X pins σ' H' { s' with heap := h4 } := J.landed nb fl4.1 ((up.trans up3).trans up4) os ag
        obtain ⟨oe4, vs4, he4, hz4, hd4⟩ := fl4.there
        refine wpAny_mono ((hsu a oe4 cls d (X.pn ++ pins) hz4 ⟨_, hd4⟩).run [] _ _ H' D (J4.suite he4 hd4 na nL nF) (yes rfl a na)) (fun f s6 hsp => ?_) fun _ _ z => z.elim
        match f, hsp with
        | .next, ⟨σ6, H6, S6, q6⟩ => exact ⟨_, _, S6.unsuite ok, q6⟩
        | .brk, ⟨σ6, H6, S6, q6⟩ => exact ⟨_, _, S6.unsuite ok, q6⟩
        | .cont, ⟨σ6, H6, S6, q6⟩ => exact ⟨_, _, S6.unsuite ok, q6⟩
        | .ret u, ⟨v6, σ6, H6, S6, r6, q6⟩ => exact ⟨_, _, _, S6.unsuite ok, r6, q6⟩
end
end Gd

namespace Gd
open PySem PySem.Spec PyProof.Rows L2
/-- a call of a def: the written arguments, then the defaults; what may be let out, at the slots -/
def tCallG (sp : Sp) (dvs : List V) (E : L2.St → XK) (t : TA) : TE := fun σ H Q => t σ H fun vs H1 => sp (vs ++ dvs) H1 Q (E σ)
/-- .. with keywords -/
def tCallH (n m : Nat) (sp : Sp) (gV : List V → List V → List V) (E : L2.St → XK) (t tk : TA) : TE := fun σ H Q => t σ H fun vs H1 => tk σ H1 fun zs H2 => vs.length = n ∧ zs.length = m ∧ sp (gV vs zs) H2 Q (E σ)
section
variable {X : Cx} {CX : CXT} {k n : Nat} {f : Addr} {fd : FuncData} {ps ks : List Str} {sp : Sp} {dvs : List V} {ds : List Value} {E : L2.St → XK} {x : Str} {p pos : Pos} {e : Expr} {es : List Expr} {t tk : TA} {kws : List Keyword}
  {g : List Value → List Value → List Value} {gV : List V → List V → List V}
theorem passN {σ : L2.St} : PassesAt CX0 X σ E0 := fun _ _ _ _ _ _ h => h.elim
theorem passM {σ : L2.St} : PassesAt (L2.CX X.prog X.w) X σ E0 := fun _ _ _ _ _ _ h => by
  obtain ⟨_, _, _, _, _, _, _, _, _, _, _, _, z⟩ := h
  exact z.elim
theorem endC {pins : List (Addr × Obj)} {σ : L2.St} {H : Hp} {s s' : Shared} {Q : VK} {E1 : XK} {r : Result} (hx : PassesAt CX X σ E1) (I : Inv X pins σ H s) (hq : CR CX X.stack X.prog X.w H s Q E1 r s') :
    match (motive := Result → Prop) r with
    | .ok (.ret v) => EP X pins σ Q v s'
    | .ok _ => False
    | .error e => X.xe e s' := by
  match r, hq with
  | .error e, hq => exact hx pins H s e s' I hq
  | .ok (.ret u), hq => exact I.after hq
  | .ok .next, hq => exact False.elim hq
  | .ok .brk, hq => exact False.elim hq
  | .ok .cont, hq => exact False.elim hq
theorem runC {pins : List (Addr × Obj)} {σ : L2.St} {H : Hp} {s : Shared} {Q : VK} {us : List Value} {vs : List V} (F : FnG X.prog X.w X.K X.mg X.base CX k f fd ps sp) (hc : Clean X.A) (hr : Room k X.A)
    (hb : Binds X.K fd ps ds) (hd : Vals dvs ds) (hx : PassesAt CX X σ (E σ)) (I : Inv X pins σ H s) (r : Vals vs us) (h : sp (vs ++ dvs) H Q (E σ)) :
    wpAny (model X.prog X.w) X.A (call (.ref f) us) (EP X pins σ Q) X.xe s := by
  have r2 := r.append hd
  have hl : (us ++ ds).length = ps.length := r2.length ▸ F.len _ _ _ _ h
  refine wpAny_call (codeAny_mono (F.run X.A X.stack s H ⟨us, []⟩ (us ++ ds) (vs ++ dvs) Q (E σ) hc hr I.env0 (hb s us I.kIn hl) r2 h) ?_)
  intro r s' hq
  have z := endC hx I hq
  match r, z with
  | .error e, z => exact z
  | .ok (.ret u), z => exact z
  | .ok .next, z => exact False.elim z
  | .ok .brk, z => exact False.elim z
  | .ok .cont, z => exact False.elim z
theorem runH {pins : List (Addr × Obj)} {σ : L2.St} {H : Hp} {s : Shared} {Q : VK} {us ws : List Value} {vs zs : List V} (F : FnG X.prog X.w X.K X.mg X.base CX k f fd ps sp) (hc : Clean X.A) (hr : Room k X.A)
    (hb : KBn X.K fd ps n ks g gV) (hx : PassesAt CX X σ (E σ)) (I : Inv X pins σ H s) (r : Vals vs us) (rz : Vals zs ws) (l1 : vs.length = n) (l2 : zs.length = ks.length) (h : sp (gV vs zs) H Q (E σ)) :
    wpAny (model X.prog X.w) X.A (call (.ref f) us (ks.zip ws)) (EP X pins σ Q) X.xe s := by
  refine wpAny_call (codeAny_mono (F.run X.A X.stack s H ⟨us, ks.zip ws⟩ (g us ws) (gV vs zs) Q (E σ) hc hr I.env0 (hb.to s us ws I.kIn (r.length.symm.trans l1) (rz.length.symm.trans l2)) (hb.rel r rz) h) ?_)
  intro r s' hq
  have z := endC hx I hq
  match r, z with
  | .error e, z => exact z
  | .ok (.ret u), z => exact z
  | .ok .next, z => exact False.elim z
  | .ok .brk, z => exact False.elim z
  | .ok .cont, z => exact False.elim z
/-- f(e, ..) -/
theorem pe_c (F : FnG X.prog X.w X.K X.mg X.base CX k f fd ps sp) (hc : Clean X.A) (hr : Room k X.A) (hg : Gl X x) (hm : X.mg x = some (.ref f)) (hk : PySem.W.keepIn X.K (.ref f) = true)
    (hb : Binds X.K fd ps ds) (hd : Vals dvs ds) (hx : ∀ σ, PassesAt CX X σ (E σ)) (ha : PA X (e :: es) t) (hdb : (x == ("__debug__" : Str)) = false := by decide)
    (he : starEach (e :: es) X.env = (false, eval e X.env) :: starEach es X.env := by rfl) (hpl : (backTo pos (starEach es X.env)).any (·.1) = false := by rfl) :
    PE X (.Call (.Name x p) (e :: es) [] pos) (tCallG sp dvs E t) := by
  refine ⟨fun pins s σ H Q I h => wpAny_Call_Name_kw (ld_glob I hg hm ?_ hdb)⟩
  exact PySem.W.callWith_K (h₀ := X.base) I.ok.mod.kin hk (thn (ha.run pos pins s σ H _ I h) fun us s1 ⟨vs, H1, I1, r, q⟩ => ⟨I1.kIn, runC F hc hr hb hd (hx σ) I1 r q⟩) he hpl
/-- f() -/
theorem pe_c0 (F : FnG X.prog X.w X.K X.mg X.base CX k f fd ps sp) (hc : Clean X.A) (hr : Room k X.A) (hg : Gl X x) (hm : X.mg x = some (.ref f)) (hk : PySem.W.keepIn X.K (.ref f) = true)
    (hb : Binds X.K fd ps ds) (hd : Vals dvs ds) (hx : ∀ σ, PassesAt CX X σ (E σ)) (hdb : (x == ("__debug__" : Str)) = false := by decide) :
    PE X (.Call (.Name x p) [] [] pos) (tCallG sp dvs E tNil) := by
  refine ⟨fun pins s σ H Q I h => wpAny_Call_Name_kw (ld_glob I hg hm ?_ hdb)⟩
  exact PySem.W.callWith_K0 I.kIn hk (runC (us := []) F hc hr hb hd (hx σ) I .nil h)
/-- f(e, .., k = v, ..) -/
theorem pe_h (F : FnG X.prog X.w X.K X.mg X.base CX k f fd ps sp) (hc : Clean X.A) (hr : Room k X.A) (hg : Gl X x) (hm : X.mg x = some (.ref f)) (hk : PySem.W.keepIn X.K (.ref f) = true)
    (hb : KBn X.K fd ps n ks g gV) (hx : ∀ σ, PassesAt CX X σ (E σ)) (ha : PA X (e :: es) t) (hkw : PK X kws tk)
    (hall : (backToKw pos (keywordEach kws X.env)).all (·.1.isSome) = true := by rfl) (hks : (backToKw pos (keywordEach kws X.env)).filterMap (·.1) = ks := by rfl) (hdb : (x == ("__debug__" : Str)) = false := by decide)
    (he : starEach (e :: es) X.env = (false, eval e X.env) :: starEach es X.env := by rfl)
    (hpl : ((backTo pos (starEach (e :: es) X.env)).any (·.1) || (backToKw pos (keywordEach kws X.env)).any (·.1.isNone)) = false := by rfl) :
    PE X (.Call (.Name x p) (e :: es) kws pos) (tCallH n ks.length sp gV E t tk) := by
  refine ⟨fun pins s σ H Q I h => wpAny_Call_Name_kw (ld_glob I hg hm ?_ hdb)⟩
  refine PySem.W.callWith_KW (h₀ := X.base) I.ok.mod.kin hk hall (thn (ha.run pos pins s σ H _ I h) fun us s1 ⟨vs, H1, I1, r, q⟩ => ?_) hpl he
  refine thn (hkw.run pos pins s1 σ H1 _ I1 q) fun ws s2 ⟨zs, H2, I2, rz, l1, l2, q2⟩ => ⟨I2.kIn, ?_⟩
  rw [hks]
  exact runH F hc hr hb (hx σ) I2 r rz l1 l2 q2
/-- f(k = v, ..) -/
theorem pe_h0 (F : FnG X.prog X.w X.K X.mg X.base CX k f fd ps sp) (hc : Clean X.A) (hr : Room k X.A) (hg : Gl X x) (hm : X.mg x = some (.ref f)) (hk : PySem.W.keepIn X.K (.ref f) = true)
    (hb : KBn X.K fd ps 0 ks g gV) (hx : ∀ σ, PassesAt CX X σ (E σ)) (hkw : PK X kws tk)
    (hall : (backToKw pos (keywordEach kws X.env)).all (·.1.isSome) = true := by rfl) (hks : (backToKw pos (keywordEach kws X.env)).filterMap (·.1) = ks := by rfl) (hdb : (x == ("__debug__" : Str)) = false := by decide)
    (hpl : ((backTo pos (starEach [] X.env)).any (·.1) || (backToKw pos (keywordEach kws X.env)).any (·.1.isNone)) = false := by rfl) :
    PE X (.Call (.Name x p) [] kws pos) (tCallH 0 ks.length sp gV E tNil tk) := by
  refine ⟨fun pins s σ H Q I h => wpAny_Call_Name_kw (ld_glob I hg hm ?_ hdb)⟩
  refine PySem.W.callWith_KW0 (h₀ := X.base) I.ok.mod.kin hk hall (thn (hkw.run pos pins s σ H _ I h) fun ws s2 ⟨zs, H2, I2, rz, l1, l2, q2⟩ => ⟨I2.kIn, ?_⟩) hpl
  rw [hks]
  exact runH (us := []) F hc hr hb (hx σ) I2 .nil rz l1 l2 q2
end
end Gd

namespace Gd
open PySem PySem.Spec PyProof.Rows L2
/-! ### data as it stands in the heap, dicts among it -/
def kD : Key → PyData
  | .inl i => .int i
  | .inr x => .str x
mutual
inductive Da (K : PySem.W.Frag) (H : Hp) : V → PyData → Prop
  | non : Da K H .non .none
  | bl (b : Bool) : Da K H (.bl b) (.bool b)
  | int (i : Int) : Da K H (.int i) (.int i)
  | str (x : Str) : Da K H (.str x) (.str x)
  | lst {a : Addr} {xs : List V} {ds : List PyData} : H a = some (.lst xs) → DaL K H xs ds → Da K H (.ref a) (.list ds)
  | tup {a : Addr} {xs : List V} {ds : List PyData} : SqT K H a xs → DaL K H xs ds → Da K H (.ref a) (.tuple ds)
  | dct {a : Addr} {kvs : List (Key × V)} {ds : List PyData} : H a = some (.dK kvs) → DaL K H (kvs.map (·.2)) ds → Da K H (.ref a) (.dict ((kvs.map fun p => kD p.1).zip ds))
inductive DaL (K : PySem.W.Frag) (H : Hp) : List V → List PyData → Prop
  | nil : DaL K H [] []
  | cons {v : V} {vs : List V} {d : PyData} {ds : List PyData} : Da K H v d → DaL K H vs ds → DaL K H (v :: vs) (d :: ds)
end
section
variable {K : PySem.W.Frag} {H H' : Hp}
theorem DaL.length : ∀ {vs : List V} {ds : List PyData}, DaL K H vs ds → ds.length = vs.length
  | _, _, .nil => rfl
  | _, _, .cons _ r => by rw [List.length_cons, List.length_cons, r.length]
theorem sameT {a : Addr} {xs : List V} (e : Same H H') (h : SqT K H a xs) : SqT K H' a xs := by
  rcases h with (h | ⟨o, h⟩) | h
  · exact .inl (.inl (e _ _ h))
  · exact .inl (.inr ⟨o, e _ _ h⟩)
  · exact .inr h
mutual
theorem Da.same (e : Same H H') : ∀ {v : V} {d : PyData}, Da K H v d → Da K H' v d
  | _, _, .non => .non
  | _, _, .bl b => .bl b
  | _, _, .int i => .int i
  | _, _, .str x => .str x
  | _, _, .lst h r => .lst (e _ _ h) (DaL.same e r)
  | _, _, .tup h r => .tup (sameT e h) (DaL.same e r)
  | _, _, .dct h r => .dct (e _ _ h) (DaL.same e r)
theorem DaL.same (e : Same H H') : ∀ {vs : List V} {ds : List PyData}, DaL K H vs ds → DaL K H' vs ds
  | _, _, .nil => .nil
  | _, _, .cons h r => .cons (Da.same e h) (DaL.same e r)
end
theorem DaL.append : ∀ {vs ws : List V} {ds es : List PyData}, DaL K H vs ds → DaL K H ws es → DaL K H (vs ++ ws) (ds ++ es)
  | _, _, _, _, .nil, r => r
  | _, _, _, _, .cons h t, r => .cons h (DaL.append t r)
theorem DaL.strs : ∀ l : List Str, DaL K H (l.map V.str) (l.map PyData.str)
  | [] => .nil
  | x :: l => .cons (.str x) (DaL.strs l)
theorem DaL.ints : ∀ l : List Int, DaL K H (l.map V.int) (l.map PyData.int)
  | [] => .nil
  | x :: l => .cons (.int x) (DaL.ints l)
theorem DaL.bls : ∀ l : List Bool, DaL K H (l.map V.bl) (l.map PyData.bool)
  | [] => .nil
  | x :: l => .cons (.bl x) (DaL.bls l)
end
/-! ### what stands there is read -/
section
variable {X : Cx} {pins : List (Addr × Obj)} {σ : L2.St} {H : Hp} {s : Shared}
abbrev Free (as : List Addr) : Prop := sysModules ∉ as
theorem free_cons {a : Addr} {as : List Addr} (h : a ≠ sysModules) (r : Free as) : Free (a :: as) := fun m =>
  (List.mem_cons.mp m).elim (fun e => h e.symm) r
theorem free_app {as bs : List Addr} (h : Free as) (r : Free bs) : Free (as ++ bs) := fun m => (List.mem_append.mp m).elim h r
theorem notSys (I : Inv X pins σ H s) (hS : SysIn X.base) {a : Addr} {o : HO} (h : H a = some o) : a ≠ sysModules := by
  rintro rfl
  obtain ⟨ob, hb⟩ := hS
  rw [(I.bs _ _ hb).2] at h
  exact nomatch h
theorem key_reads : ∀ (kvs : List (Key × V)) (vs : List (Key × Value)) (es : List DictEntry), KV kvs vs → Pairs (mixKind X.prog X.w) es vs →
    (∃ as, ReadsAll s.heap (es.map (·.key)) (kvs.map fun p => kD p.1) as ∧ Free as) ∧ Vals (kvs.map (·.2)) (es.map (·.val))
  | _, _, _, .nil, .nil => ⟨⟨[], .nil, List.not_mem_nil⟩, .nil⟩
  | _, _, _, .cons ⟨ek, rv⟩ r, .cons hk hv p => by
    obtain ⟨⟨as, h1, h2⟩, h3⟩ := key_reads _ _ _ r p
    refine ⟨?_, .cons (by show RelV _ (DictEntry.val _); rw [hv]; exact rv) h3⟩
    rw [← ek] at hk
    rcases keyIs_shape hk with ⟨i, t, e1, e2⟩ | ⟨y, t, e1, e2⟩
    · refine ⟨[] ++ as, ?_, h2⟩
      refine .cons ?_ h1
      show Reads _ (DictEntry.key _) (kD _) []
      rw [e1, e2]
      exact .int i t
    · refine ⟨[] ++ as, ?_, h2⟩
      refine .cons ?_ h1
      show Reads _ (DictEntry.key _) (kD _) []
      rw [e1, e2]
      exact .str y t
theorem zip_fst : ∀ (ks ds : List PyData), ks.length = ds.length → (ks.zip ds).map (·.1) = ks
  | [], _, _ => rfl
  | _ :: _, [], h => nomatch h
  | k :: ks, d :: ds, h => by
    show k :: (ks.zip ds).map (·.1) = k :: ks
    rw [zip_fst ks ds (Nat.succ.inj h)]
theorem zip_snd : ∀ (ks ds : List PyData), ks.length = ds.length → (ks.zip ds).map (·.2) = ds
  | [], [], _ => rfl
  | [], _ :: _, h => nomatch h
  | _ :: _, [], h => nomatch h
  | k :: ks, d :: ds, h => by
    show d :: (ks.zip ds).map (·.2) = d :: ds
    rw [zip_snd ks ds (Nat.succ.inj h)]
mutual
theorem Da.reads (I : Inv X pins σ H s) (hS : SysIn X.base) : ∀ {v : V} {d : PyData} {u : Value}, Da X.K H v d → RelV v u → ∃ as, Reads s.heap u d as ∧ Free as
  | _, _, _, .non, r => by
    cases r
    exact ⟨_, .none, List.not_mem_nil⟩
  | _, _, _, .bl b, r => by
    cases r
    exact ⟨_, .bool b, List.not_mem_nil⟩
  | _, _, _, .int i, ⟨t, r⟩ => by
    cases r
    exact ⟨_, .int i t, List.not_mem_nil⟩
  | _, _, _, .str x, ⟨t, r⟩ => by
    cases r
    exact ⟨_, .str x t, List.not_mem_nil⟩
  | _, _, _, .lst h q, r => by
    cases r
    obtain ⟨_, its, n, rv, ho⟩ := I.hok _ _ h
    obtain ⟨as, h1, h2⟩ := DaL.reads I hS q rv
    exact ⟨_, .list ho rfl rfl h1, free_cons (notSys I hS h) h2⟩
  | _, _, _, .tup h q, r => by
    cases r
    obtain ⟨its, rv, ⟨o, ho, hc, n, hd⟩, _⟩ := I.tuple h
    obtain ⟨as, h1, h2⟩ := DaL.reads I hS q rv
    exact ⟨_, .tuple ho hc hd h1, h2⟩
  | _, _, _, .dct (kvs := kvs) (ds := ds) h q, r => by
    cases r
    obtain ⟨_, hns, vs, rk, o, es, ep, ho, hex, hd, _, hp, _⟩ := I.hok _ _ h
    obtain ⟨⟨as, k1, k2⟩, rv⟩ := key_reads (s := s) kvs vs es.toList rk hp
    obtain ⟨bs, v1, v2⟩ := DaL.reads I hS q rv
    have hl : (kvs.map fun p => kD p.1).length = ds.length := by
      rw [q.length, List.length_map, List.length_map]
    have k1' : ReadsAll s.heap (es.toList.map (·.key)) (((kvs.map fun p => kD p.1).zip ds).map (·.1)) as := by
      rw [zip_fst _ _ hl]
      exact k1
    have v1' : ReadsAll s.heap (es.toList.map (·.val)) (((kvs.map fun p => kD p.1).zip ds).map (·.2)) bs := by
      rw [zip_snd _ _ hl]
      exact v1
    exact ⟨_, .dict ho hex.1 hd k1' v1', free_app (free_cons (notSys I hS h) k2) v2⟩
theorem DaL.reads (I : Inv X pins σ H s) (hS : SysIn X.base) : ∀ {vs : List V} {ds : List PyData} {us : List Value}, DaL X.K H vs ds → Vals vs us → ∃ as, ReadsAll s.heap us ds as ∧ Free as
  | _, _, _, .nil, .nil => ⟨_, .nil, List.not_mem_nil⟩
  | _, _, _, .cons h q, .cons r rs => by
    obtain ⟨as, h1, h2⟩ := Da.reads I hS h r
    obtain ⟨bs, h3, h4⟩ := DaL.reads I hS q rs
    exact ⟨_, .cons h1 h3, free_app h2 h4⟩
end
end
/-! ### the room that a written form takes -/
mutual
/-- more than its written form has signs -/
def wid : PyData → Nat
  | .none => 4
  | .bool _ => 5
  | .int i => i.natAbs.log2 + 3
  | .str x => 10 * x.length + 2
  | .list xs => widL xs + 2
  | .tuple xs => widL xs + 3
  | .dict kvs => widK kvs + 2
def widL : List PyData → Nat
  | [] => 0
  | x :: xs => wid x + 2 + widL xs
def widK : List (PyData × PyData) → Nat
  | [] => 0
  | (k, v) :: r => wid k + wid v + 4 + widK r
end
mutual
/-- it can be written: the signs of its texts are signs, its numbers are not too great -/
def Ok1 : PyData → Prop
  | .none => True
  | .bool _ => True
  | .int i => i.natAbs.log2 < 1920
  | .str x => ∀ c ∈ x.cps.toList, c < 16 ^ 8
  | .list xs => OkL xs
  | .tuple xs => OkL xs
  | .dict kvs => OkK kvs
def OkL : List PyData → Prop
  | [] => True
  | x :: xs => Ok1 x ∧ OkL xs
def OkK : List (PyData × PyData) → Prop
  | [] => True
  | (k, v) :: r => Ok1 k ∧ Ok1 v ∧ OkK r
end

mutual
theorem ok_show : ∀ d : PyData, Ok1 d → d.showable = true
  | .none, _ => rfl
  | .bool _, _ => rfl
  | .int _, h => decide_eq_true h
  | .str _, _ => rfl
  | .list xs, h => ok_showL xs h
  | .tuple xs, h => ok_showL xs h
  | .dict kvs, h => ok_showK kvs h
theorem ok_showL : ∀ xs : List PyData, OkL xs → PyData.showableAll xs = true
  | [], _ => rfl
  | x :: xs, h => by
    show (PyData.showable x && PyData.showableAll xs) = true
    rw [ok_show x h.1, ok_showL xs h.2]
    rfl
theorem ok_showK : ∀ xs : List (PyData × PyData), OkK xs → PyData.showableKv xs = true
  | [], _ => rfl
  | (k, v) :: xs, h => by
    show (PyData.showable k && PyData.showable v && PyData.showableKv xs) = true
    rw [ok_show k h.1, ok_show v h.2.1, ok_showK xs h.2.2]
    rfl
end
theorem textFrom_le : ∀ (ts : List Str) (k : Nat) (acc : Str), (textFrom k acc ts).length ≤ acc.length + (ts.map fun t => t.length + 2).sum
  | [], _, acc => Nat.le_add_right _ _
  | t :: r, k, acc => by
    have ih := textFrom_le r (k + 1) (acc ++ (if k > 0 then ", " else "" : String) ++ t)
    rw [strLen_append, strLen_append] at ih
    have e : (((if k > 0 then ", " else "" : String) : Str)).length ≤ 2 := by split <;> decide +kernel
    rw [List.map_cons, List.sum_cons]
    show (textFrom (k + 1) (acc ++ (if k > 0 then ", " else "" : String) ++ t) r).length ≤ _
    omega
theorem listText_le (ts : List Str) : (listText ts).length ≤ 2 + (ts.map fun t => t.length + 2).sum := by
  have h := textFrom_le ts 0 "["
  have e1 : (("[" : String) : Str).length = 1 := by decide +kernel
  have e2 : (("]" : String) : Str).length = 1 := by decide +kernel
  unfold listText
  rw [strLen_append]
  omega
theorem piled_map : ∀ ts : List Str, piled ts = (ts.map fun t => t.length + 2).sum
  | [] => rfl
  | t :: r => by
    rw [piled_cons, piled_map r, List.map_cons, List.sum_cons]
theorem join_le (ts : List Str) : (Str.join ", " ts).length ≤ (ts.map fun t => t.length + 2).sum := by
  by_cases h : ts = []
  · subst h
    decide +kernel
  · have := join_length_add ts h
    rw [piled_map] at this
    omega
theorem tupleText_le (ts : List Str) : (tupleText ts).length ≤ 3 + (ts.map fun t => t.length + 2).sum := by
  have e3 : (((if ts.length == 1 then ",)" else ")" : String) : Str)).length ≤ 2 := by split <;> decide +kernel
  have e1 : (("(" : String) : Str).length = 1 := by decide +kernel
  have h := join_le ts
  unfold tupleText
  rw [strLen_append, strLen_append]
  omega
theorem dictText_le (ts : List Str) : (dictText ts).length ≤ 2 + (ts.map fun t => t.length + 2).sum := by
  have e1 : (("{" : String) : Str).length = 1 := by decide +kernel
  have e2 : (("}" : String) : Str).length = 1 := by decide +kernel
  have h := join_le ts
  unfold dictText
  rw [strLen_append, strLen_append]
  omega
mutual
theorem wid_le : ∀ d : PyData, Ok1 d → d.shown.length ≤ wid d
  | .none, _ => by show (("None" : String) : Str).length ≤ 4; decide +kernel
  | .bool b, _ => by cases b <;> (show Str.length _ ≤ 5) <;> decide +kernel
  | .int i, _ => by
    have h := int_text_length_le (a := i) (k := i.natAbs.log2 + 1) (Nat.succ_pos _) (Nat.lt_succ_self _)
    show (Str.ofString (toString i)).length ≤ i.natAbs.log2 + 3
    have e : (Str.ofString (toString i)).length = (toString i).length := PySem.ofString_length _
    omega
  | .str x, h => StrLaws.reprText_len x h
  | .list xs, h => by
    have h1 := widL_le xs h
    have h2 := listText_le (PyData.shownAll xs)
    show (listText (PyData.shownAll xs)).length ≤ widL xs + 2
    omega
  | .tuple xs, h => by
    have h1 := widL_le xs h
    have h2 := tupleText_le (PyData.shownAll xs)
    show (tupleText (PyData.shownAll xs)).length ≤ widL xs + 3
    omega
  | .dict xs, h => by
    have h1 := widK_le xs h
    have h2 := dictText_le (PyData.shownKv xs)
    show (dictText (PyData.shownKv xs)).length ≤ widK xs + 2
    omega
theorem widL_le : ∀ xs : List PyData, OkL xs → ((PyData.shownAll xs).map fun t => t.length + 2).sum ≤ widL xs
  | [], _ => Nat.le_refl _
  | x :: xs, h => by
    have h1 := wid_le x h.1
    have h2 := widL_le xs h.2
    show (x.shown.length + 2) + ((PyData.shownAll xs).map fun t => t.length + 2).sum ≤ wid x + 2 + widL xs
    omega
theorem widK_le : ∀ xs : List (PyData × PyData), OkK xs → ((PyData.shownKv xs).map fun t => t.length + 2).sum ≤ widK xs
  | [], _ => Nat.le_refl _
  | (k, v) :: xs, h => by
    have h1 := wid_le k h.1
    have h2 := wid_le v h.2.1
    have h3 := widK_le xs h.2.2
    have e2 : ((": " : String) : Str).length = 2 := by decide +kernel
    show ((k.shown ++ ": " ++ v.shown).length + 2) + ((PyData.shownKv xs).map fun t => t.length + 2).sum ≤ wid k + wid v + 4 + widK xs
    rw [strLen_append, strLen_append]
    omega
end
/-- repr of data: the text, all else as it stood -/
theorem call_repr {X : Cx} (hc : Clean X.A) (hS : SysIn X.base) (hu : X.A.units + 100 < cLine) : CallR X (.builtin "repr") (fun xs H Q => ∃ x d, xs = [x] ∧ Da X.K H x d ∧ Ok1 d ∧ wid d ≤ sizeLine ∧ d.depth ≤ 64 ∧ Q (.str d.shown) H) := by
  intro pins s σ H xs us Q I r h
  obtain ⟨x, d, rfl, hd, ok, hz, hdp, q⟩ := h
  obtain ⟨u, rfl, ru⟩ := vals1 r
  have hz' : d.shown.length ≤ sizeLine := Nat.le_trans (wid_le d ok) hz
  obtain ⟨as, hr, hf⟩ := Da.reads I hS hd ru
  have fin : ∀ (t tk : Tok) (h' : Heap), (∀ b o, s.heap.get? b = some o → h'.get? b = some o) → EP X pins σ Q (.str d.shown t) { s with heap := h', toks := tk } :=
    fun t tk h' k => ⟨.str d.shown, H, I.kept k, ⟨t, rfl⟩, q⟩
  cases hd with
  | non =>
    cases ru
    exact PySem.P.repr_of_none (fin _ _ s.heap fun _ _ e => e)
  | bl b =>
    cases ru
    exact PySem.P.repr_of_bool (fin _ _ s.heap fun _ _ e => e)
  | int i =>
    obtain ⟨t, rfl⟩ := ru
    exact PySem.P.repr_of_int ok (fin _ _ s.heap fun _ _ e => e)
  | str y =>
    obtain ⟨t, rfl⟩ := ru
    exact PySem.P.repr_of_str (fin _ _ s.heap fun _ _ e => e) hz'
  | lst h1 h2 =>
    cases ru
    exact repr_of_reads' hr (ok_show _ ok) (fun _ => hf) hc (by omega) (fun _ _ e => e) (fun h' u tk k => fin u tk h' k) hz'
  | tup h1 h2 =>
    cases ru
    exact repr_of_reads' hr (ok_show _ ok) (fun _ => hf) hc (by omega) (fun _ _ e => e) (fun h' u tk k => fin u tk h' k) hz'
  | dct h1 h2 =>
    cases ru
    exact repr_of_reads' hr (ok_show _ ok) (fun _ => hf) hc (by omega) (fun _ _ e => e) (fun h' u tk k => fin u tk h' k) hz'
end Gd

namespace Gd
open PySem PySem.Spec PyProof.Rows L2
/-! ### a def as its callers see it -/
structure Df (P : Program) (w : World) (K : PySem.W.Frag) (mg : Str → Option Value) (base : Heap) (CX : CXT) (k : Nat) (x : Str) (f : Addr) (fd : FuncData) (ps : List Str) (sp : Sp) : Prop where
  G : FnG P w K mg base CX k f fd ps sp
  m : mg x = some (.ref f)
  kp : PySem.W.keepIn K (.ref f) = true
  b : Binds K fd ps []
theorem room100 {k : Nat} {A : Around} (r : Room k A) : A.units + 100 < cLine := by
  have := r.un
  omega
section
variable {X : Cx} {CX : CXT} {k n : Nat} {f : Addr} {fd : FuncData} {ps ks : List Str} {sp : Sp} {E : L2.St → XK} {x : Str} {p pos : Pos} {e : Expr} {es : List Expr} {t tk : TA} {kws : List Keyword}
  {g : List Value → List Value → List Value} {gV : List V → List V → List V}
theorem pe_k {v : V} {x : Str} {pos : Pos} (hg : Gl X x) (h : ∃ u, X.mg x = some u ∧ RelV v u) (hd : (x == ("__debug__" : Str)) = false := by decide) : PE X (.Name x pos) (tC v) :=
  let ⟨_, h1, h2⟩ := h
  pe_glob hg h1 h2 hd
theorem pe_d (D : Df X.prog X.w X.K X.mg X.base CX k x f fd ps sp) (hc : Clean X.A) (hr : Room k X.A) (hg : Gl X x) (hx : ∀ σ, PassesAt CX X σ (E σ)) (ha : PA X (e :: es) t) (hdb : (x == ("__debug__" : Str)) = false := by decide)
    (he : starEach (e :: es) X.env = (false, eval e X.env) :: starEach es X.env := by rfl) (hpl : (backTo pos (starEach es X.env)).any (·.1) = false := by rfl) :
    PE X (.Call (.Name x p) (e :: es) [] pos) (tCallG sp [] E t) := pe_c D.G hc hr hg D.m D.kp D.b .nil hx ha hdb he hpl
theorem pe_d0 (D : Df X.prog X.w X.K X.mg X.base CX k x f fd ps sp) (hc : Clean X.A) (hr : Room k X.A) (hg : Gl X x) (hx : ∀ σ, PassesAt CX X σ (E σ)) (hdb : (x == ("__debug__" : Str)) = false := by decide) :
    PE X (.Call (.Name x p) [] [] pos) (tCallG sp [] E tNil) := pe_c0 D.G hc hr hg D.m D.kp D.b .nil hx hdb
/-- with defaults -/
structure Dd (P : Program) (w : World) (K : PySem.W.Frag) (mg : Str → Option Value) (base : Heap) (CX : CXT) (k : Nat) (x : Str) (f : Addr) (fd : FuncData) (ps : List Str) (dvs : List V) (sp : Sp) : Prop where
  G : FnG P w K mg base CX k f fd ps sp
  m : mg x = some (.ref f)
  kp : PySem.W.keepIn K (.ref f) = true
  b : ∃ ds, Vals dvs ds ∧ Binds K fd ps ds
theorem pe_dd {dvs : List V} (D : Dd X.prog X.w X.K X.mg X.base CX k x f fd ps dvs sp) (hc : Clean X.A) (hr : Room k X.A) (hg : Gl X x) (hx : ∀ σ, PassesAt CX X σ (E σ)) (ha : PA X (e :: es) t) (hdb : (x == ("__debug__" : Str)) = false := by decide)
    (he : starEach (e :: es) X.env = (false, eval e X.env) :: starEach es X.env := by rfl) (hpl : (backTo pos (starEach es X.env)).any (·.1) = false := by rfl) :
    PE X (.Call (.Name x p) (e :: es) [] pos) (tCallG sp dvs E t) :=
  let ⟨_, hd, hb⟩ := D.b
  pe_c D.G hc hr hg D.m D.kp hb hd hx ha hdb he hpl
/-- called with keywords -/
structure Dk (P : Program) (w : World) (K : PySem.W.Frag) (mg : Str → Option Value) (base : Heap) (CX : CXT) (k : Nat) (x : Str) (f : Addr) (fd : FuncData) (ps : List Str) (sp : Sp) (n : Nat) (ks : List Str) (gV : List V → List V → List V) : Prop where
  G : FnG P w K mg base CX k f fd ps sp
  m : mg x = some (.ref f)
  kp : PySem.W.keepIn K (.ref f) = true
  b : ∃ g, KBn K fd ps n ks g gV
theorem pe_dk (D : Dk X.prog X.w X.K X.mg X.base CX k x f fd ps sp n ks gV) (hc : Clean X.A) (hr : Room k X.A) (hg : Gl X x) (hx : ∀ σ, PassesAt CX X σ (E σ)) (ha : PA X (e :: es) t) (hkw : PK X kws tk)
    (hall : (backToKw pos (keywordEach kws X.env)).all (·.1.isSome) = true := by rfl) (hks : (backToKw pos (keywordEach kws X.env)).filterMap (·.1) = ks := by rfl) (hdb : (x == ("__debug__" : Str)) = false := by decide)
    (he : starEach (e :: es) X.env = (false, eval e X.env) :: starEach es X.env := by rfl)
    (hpl : ((backTo pos (starEach (e :: es) X.env)).any (·.1) || (backToKw pos (keywordEach kws X.env)).any (·.1.isNone)) = false := by rfl) :
    PE X (.Call (.Name x p) (e :: es) kws pos) (tCallH n ks.length sp gV E t tk) :=
  let ⟨_, hb⟩ := D.b
  pe_h D.G hc hr hg D.m D.kp hb hx ha hkw hall hks hdb he hpl
theorem pe_dk0 (D : Dk X.prog X.w X.K X.mg X.base CX k x f fd ps sp 0 ks gV) (hc : Clean X.A) (hr : Room k X.A) (hg : Gl X x) (hx : ∀ σ, PassesAt CX X σ (E σ)) (hkw : PK X kws tk)
    (hall : (backToKw pos (keywordEach kws X.env)).all (·.1.isSome) = true := by rfl) (hks : (backToKw pos (keywordEach kws X.env)).filterMap (·.1) = ks := by rfl) (hdb : (x == ("__debug__" : Str)) = false := by decide)
    (hpl : ((backTo pos (starEach [] X.env)).any (·.1) || (backToKw pos (keywordEach kws X.env)).any (·.1.isNone)) = false := by rfl) :
    PE X (.Call (.Name x p) [] kws pos) (tCallH 0 ks.length sp gV E tNil tk) :=
  let ⟨_, hb⟩ := D.b
  pe_h0 D.G hc hr hg D.m D.kp hb hx hkw hall hks hdb hpl
end
/-! ### is True, is not False -/
section
variable {X : Cx}
theorem rel_bl {x : V} {u : Value} {b : Bool} (r : RelV x u) (h : x ≠ .bl b) : u ≠ Value.bool b := by
  intro e
  subst e
  cases x with
  | bl c =>
    have : Value.bool b = Value.bool c := r
    cases this
    exact h rfl
  | non => exact nomatch (r : Value.bool b = Value.none)
  | int _ => obtain ⟨_, q⟩ := r; exact nomatch q
  | str _ => obtain ⟨_, q⟩ := r; exact nomatch q
  | byt _ => obtain ⟨_, q⟩ := r; exact nomatch q
  | flt _ => obtain ⟨_, q⟩ := r; exact nomatch q
  | ref a => exact nomatch (r : Value.bool b = Value.ref a)
  | ty n => exact nomatch (r : Value.bool b = Value.type n)
theorem plain_bl {x : V} {u : Value} {b : Bool} (r : RelV x u) : plainIs u (Value.bool b) = true := by
  cases x with
  | bl c => cases (show u = Value.bool c from r); rfl
  | non => cases (show u = Value.none from r); rfl
  | int _ => obtain ⟨_, q⟩ := r; subst q; rfl
  | str _ => obtain ⟨_, q⟩ := r; subst q; rfl
  | byt _ => obtain ⟨_, q⟩ := r; subst q; rfl
  | flt _ => obtain ⟨_, q⟩ := r; subst q; rfl
  | ref a => cases (show u = Value.ref a from r); rfl
  | ty n => cases (show u = Value.type n from r); rfl
theorem op_isB : OpR X (compareOp .Is) (fun x y H Q => ∃ b, y = .bl b ∧ Q (.bl (decide (x = .bl b))) H) := by
  intro pins s σ H x y v u Q I rx ry h
  obtain ⟨b, rfl, q⟩ := h
  cases (show u = Value.bool b from ry)
  by_cases e : x = .bl b
  · subst e
    cases (show v = Value.bool b from rx)
    exact wpAny_is_self rfl ⟨.bl true, H, I, rfl, by simpa using q⟩
  · exact wpAny_is_other (plain_bl rx) (rel_bl rx e) ⟨.bl false, H, I, rfl, by simpa [e] using q⟩
theorem op_notB : OpR X (compareOp .IsNot) (fun x y H Q => ∃ b, y = .bl b ∧ Q (.bl (!decide (x = .bl b))) H) := by
  intro pins s σ H x y v u Q I rx ry h
  obtain ⟨b, rfl, q⟩ := h
  cases (show u = Value.bool b from ry)
  by_cases e : x = .bl b
  · subst e
    cases (show v = Value.bool b from rx)
    exact wpAny_isNot_self rfl ⟨.bl false, H, I, rfl, by simpa using q⟩
  · exact wpAny_isNot_other (plain_bl rx) (rel_bl rx e) ⟨.bl true, H, I, rfl, by simpa [e] using q⟩
/-! ### s * n -/
def repS (x : Str) (n : Int) : Str := ⟨(List.replicate n.toNat x.cps).foldl (· ++ ·) #[]⟩
theorem fold_app (c : Array Nat) : ∀ (n : Nat) (a : Array Nat), ((List.replicate n c).foldl (· ++ ·) a).toList = a.toList ++ (List.replicate n c.toList).flatten
  | 0, a => by simp
  | n + 1, a => by
    rw [List.replicate_succ, List.foldl_cons, fold_app c n (a ++ c), List.replicate_succ, List.flatten_cons, Array.toList_append, List.append_assoc]
theorem repS_list (x : Str) (n : Int) : (repS x n).cps.toList = (List.replicate n.toNat x.cps.toList).flatten := by
  show ((List.replicate n.toNat x.cps).foldl (· ++ ·) #[]).toList = _
  rw [fold_app]
  rfl
theorem op_repS : OpR X (binaryOp .Mult) (fun x y H Q => ∃ z n, x = .str z ∧ y = .int n ∧ 1 < n ∧ n < 1000000 ∧ z.length ≠ 0 ∧ z.length * n.toNat ≤ sizeLine ∧ Q (.str (repS z n)) H) := by
  intro pins s σ H x y v u Q I rx ry h
  obtain ⟨z, n, rfl, rfl, h1, h2, h0, hz, q⟩ := h
  obtain ⟨t, rfl⟩ := rx
  obtain ⟨t', rfl⟩ := ry
  have e1 : (n == 1 || z.length == 0) = false := by
    rw [Bool.or_eq_false_iff]
    exact ⟨beq_eq_false_iff_ne.mpr (by omega), beq_eq_false_iff_ne.mpr h0⟩
  have hb : ¬ (z.length : Int) > (2 ^ 63 - 1) / n := by
    intro c
    have hs := hz
    rw [sizeLine_eq] at hs
    have h3 : (z.length : Int) * n ≤ 16777216 := by
      have h4 : ((z.length * n.toNat : Nat) : Int) ≤ 16777216 := Int.ofNat_le.mpr hs
      rw [Int.natCast_mul, Int.toNat_of_nonneg (by omega)] at h4
      exact h4
    have h5 : (z.length : Int) ≤ 16777216 := by
      have h6 : (1 : Int) ≤ z.length := by omega
      have h7 : (z.length : Int) * 1 ≤ (z.length : Int) * n := Int.mul_le_mul_of_nonneg_left (by omega) (by omega)
      omega
    have h8 : (2 ^ 63 - 1 : Int) / n ≥ (2 ^ 63 - 1) / 1000000 := by
      have : (2 ^ 63 - 1 : Int) / 1000000 * n ≤ (2 ^ 63 - 1) := by
        have h9 : (2 ^ 63 - 1 : Int) / 1000000 = 9223372036854 := by decide
        rw [h9]
        omega
      exact (Int.le_ediv_iff_mul_le (by omega)).mpr this
    have h10 : (2 ^ 63 - 1 : Int) / 1000000 = 9223372036854 := by decide
    omega
  refine PySem.P.mul_str (by rw [Bool.or_eq_false_iff]; exact ⟨decide_eq_false (by omega), decide_eq_false (by omega)⟩) (fun _ _ => hb) (fun _ _ => ?_) ?_
  · unfold Builtin.Str.tooLong
    exact decide_eq_false (by omega)
  · rw [if_neg (by omega), if_neg (by rw [e1]; exact Bool.false_ne_true)]
    have hl : (repS z n).length ≤ sizeLine := by
      have e : (repS z n).length = z.length * n.toNat := by
        show (repS z n).cps.size = _
        rw [← Array.length_toList, repS_list, List.length_flatten, List.map_replicate, List.sum_replicate_nat]
        show n.toNat * z.cps.toList.length = _
        rw [Array.length_toList, Nat.mul_comm]
        rfl
      omega
    exact ⟨hl, ⟨.str (repS z n), H, I.tok _, ⟨_, rfl⟩, q⟩⟩
end
end Gd

namespace Gd
open PySem PySem.Spec PyProof.Rows L2
/-! ### the kind of a value -/
inductive Kind where
  | non | bl | int | str | lst | tup | dct | odd
  deriving DecidableEq
def Kind.name : Kind → String
  | .non => "NoneType"
  | .bl => "bool"
  | .int => "int"
  | .str => "str"
  | .lst => "list"
  | .tup => "tuple"
  | .dct => "dict"
  | .odd => "?"
def kindO : Option HO → Kind
  | some (.lst _) => .lst
  | some (.tup _) => .tup
  | some (.dK _) => .dct
  | _ => .odd
def kind (H : Hp) : V → Kind
  | .non => .non
  | .bl _ => .bl
  | .int _ => .int
  | .str _ => .str
  | .ref a => kindO (H a)
  | _ => .odd
abbrev Pv (H : Hp) (v : V) : Prop := kind H v ≠ .odd
/-- isinstance of such a value -/
def inst (n : String) (k : Kind) : Bool := k.name == n || (n == "int" && k == .bl)
theorem kind_ty {K : PySem.W.Frag} {H : Hp} {v : V} (h : Pv H v) : TyX K H v (.type (kind H v).name) := by
  cases v with
  | non => exact .base .non
  | bl b => exact .base (.bl b)
  | int i => exact .base (.int i)
  | str x => exact .base (.str x)
  | byt b => exact absurd rfl h
  | flt b => exact absurd rfl h
  | ty n => exact absurd rfl h
  | ref a =>
    change kindO (H a) ≠ .odd at h
    show TyX K H (.ref a) (.type (kindO (H a)).name)
    cases e : H a with
    | none => rw [e] at h; exact absurd rfl h
    | some o =>
      rw [e] at h
      cases o with
      | lst xs => exact .base (.lst e)
      | tup xs => exact .base (.tup e)
      | dK kvs => exact .base (.dK e)
      | _ => exact absurd rfl h
abbrev Cn (n : String) : Prop := n = "int" ∨ n = "str" ∨ n = "bool" ∨ n = "list" ∨ n = "tuple" ∨ n = "dict"
theorem kit_kind {K : PySem.W.Frag} {H : Hp} {v : V} (h : Pv H v) {n : String} (hn : Cn n) : PySem.W.kitOne K (.type (kind H v).name) (.type n) = some (inst n (kind H v)) := by
  apply kit_ty
  revert h
  unfold Pv
  generalize kind H v = k
  intro h
  rcases hn with rfl | rfl | rfl | rfl | rfl | rfl <;> cases k <;> first | exact absurd rfl h | decide +kernel
section
variable {X : Cx}
theorem call_isk : CallR X (.builtin "isinstance") (fun xs H Q => ∃ x n, xs = [x, .ty n] ∧ Cn n ∧ Pv H x ∧ Q (.bl (inst n (kind H x))) H) := by
  intro pins s σ H xs us Q I r h
  obtain ⟨x, n, rfl, hn, hv, q⟩ := h
  exact call_isi pins s σ H _ us Q I r ⟨x, .ty n, _, _, _, rfl, .ty n, kind_ty hv, kit_kind hv hn, q⟩
/-- (list, tuple) and its like -/
theorem call_isk2 : CallR X (.builtin "isinstance") (fun xs H Q => ∃ x t n m, xs = [x, .ref t] ∧ H t = some (.tup [.ty n, .ty m]) ∧ Cn n ∧ Cn m ∧ Pv H x ∧ Q (.bl (inst n (kind H x) || inst m (kind H x))) H) := by
  intro pins s σ H xs us Q I r h
  obtain ⟨x, t, n, m, rfl, ht, hn, hm, hv, q⟩ := h
  refine call_isiT pins s σ H _ us Q I r ⟨x, t, [.ty n, .ty m], _, [.type n, .type m], _, rfl, ht, .cons (.ty n) (.cons (.ty m) .nil), kind_ty hv, ?_, q⟩
  refine kitAny_cons (kit_kind hv hn) (fun e1 => ?_) (fun e1 => ?_)
  · rw [e1, Bool.false_or]
    exact kitAny_cons (kit_kind hv hm) (fun e2 => by rw [e2]; exact kitAny_nil) fun e2 => e2
  · rw [e1]
    rfl
end
/-- an int other than True and False -/
def isInt : V → Bool
  | .int _ => true
  | _ => false
def isStr : V → Bool
  | .str _ => true
  | _ => false
theorem kind_ref {H : Hp} {a : Addr} : kind H (.ref a) = .lst ∨ kind H (.ref a) = .tup ∨ kind H (.ref a) = .dct ∨ kind H (.ref a) = .odd := by
  show kindO (H a) = _ ∨ kindO (H a) = _ ∨ kindO (H a) = _ ∨ kindO (H a) = _
  cases H a with
  | none => exact .inr (.inr (.inr rfl))
  | some o =>
    cases o <;> first | exact .inl rfl | exact .inr (.inl rfl) | exact .inr (.inr (.inl rfl)) | exact .inr (.inr (.inr rfl))
theorem isInt_kind (H : Hp) (v : V) : (inst "int" (kind H v) && !inst "bool" (kind H v)) = isInt v := by
  cases v with
  | ref a =>
    show _ = false
    rcases kind_ref (H := H) (a := a) with e | e | e | e <;> rw [e] <;> decide +kernel
  | _ => rfl
theorem isStr_kind (H : Hp) (v : V) : inst "str" (kind H v) = isStr v := by
  cases v with
  | ref a =>
    show _ = false
    rcases kind_ref (H := H) (a := a) with e | e | e | e <;> rw [e] <;> decide +kernel
  | _ => rfl
theorem kind_same {H H' : Hp} (e : Same H H') {v : V} (h : Pv H v) : kind H' v = kind H v := by
  cases v with
  | ref a =>
    change kindO (H a) ≠ .odd at h
    show kindO (H' a) = kindO (H a)
    cases q : H a with
    | none => rw [q] at h; exact absurd rfl h
    | some o => rw [e a o q]
  | _ => rfl
theorem Pv.same {H H' : Hp} (e : Same H H') {v : V} (h : Pv H v) : Pv H' v := by
  unfold Pv
  rw [kind_same e h]
  exact h
theorem isStr_iff {v : V} (h : isStr v = true) : ∃ x, v = .str x := by
  cases v <;> first | exact ⟨_, rfl⟩ | exact absurd h Bool.false_ne_true
theorem isInt_iff {v : V} (h : isInt v = true) : ∃ x, v = .int x := by
  cases v <;> first | exact ⟨_, rfl⟩ | exact absurd h Bool.false_ne_true
end Gd

namespace Gd
open PySem L2
/-! ### the law's pool of digits -/
/-- it stands at p -/
def BoxAt (H : Hp) (p : Addr) : Prop := ∃ a b c : Int, H p = some (.lst [.int a, .int b, .int c]) ∧ 0 ≤ b ∧ b < 2147483647
/-- it may have turned, nothing else has -/
def Turned (H H' : Hp) (p : Addr) : Prop := BoxAt H' p ∧ ∀ q, q ≠ p → H' q = H q
theorem Turned.refl {H : Hp} {p : Addr} (b : BoxAt H p) : Turned H H p := ⟨b, fun _ _ => rfl⟩
theorem Turned.trans {H H1 H2 : Hp} {p : Addr} (a : Turned H H1 p) (b : Turned H1 H2 p) : Turned H H2 p := ⟨b.1, fun q hq => (b.2 q hq).trans (a.2 q hq)⟩
theorem Turned.box {H H' : Hp} {p : Addr} (t : Turned H H' p) : BoxAt H' p := t.1
theorem Turned.at {H H' : Hp} {p q : Addr} {o : HO} (t : Turned H H' p) (hq : q ≠ p) (h : H q = some o) : H' q = some o := (t.2 q hq).trans h
theorem turned_upd {H : Hp} {p : Addr} {a b c : Int} (h0 : 0 ≤ b) (h1 : b < 2147483647) : Turned H (upd H p (.lst [.int a, .int b, .int c])) p :=
  ⟨⟨a, b, c, upd_same, h0, h1⟩, fun q hq => upd_ne hq⟩
theorem BoxAt.some {H : Hp} {p : Addr} (b : BoxAt H p) : ∃ o, H p = some o := let ⟨_, _, _, h, _⟩ := b; ⟨_, h⟩
theorem BoxAt.upd {H : Hp} {p q : Addr} {o : HO} (b : BoxAt H p) (hq : H q = none) : BoxAt (upd H q o) p := by
  obtain ⟨x, y, z, h, r⟩ := b
  exact ⟨x, y, z, by rw [upd_ne (ne_of_none h hq)]; exact h, r⟩
def spScr (K : PySem.W.Frag) : Sp := fun vs H Q _ => ∃ (a : Addr) (ns : List Int) (k : Int), vs = [.ref a, .int k] ∧ SqL K H a (ns.map V.int) ∧ 0 ≤ k ∧ k < 1000 ∧ ∀ z, Q (.int z) H
def spBox : Sp := fun vs H Q _ => ∃ z : Int, vs = [.int z] ∧ ∀ (p : Addr) (o : HO), H p = none → BoxAt (upd H p o) p → Q (.ref p) (upd H p o)
def spTake : Sp := fun vs H Q _ => ∃ (p : Addr) (n : Int), vs = [.ref p, .int n] ∧ BoxAt H p ∧ 0 < n ∧ n < 1000000 ∧ ∀ (d : Int) (H' : Hp), 0 ≤ d → d < n → Turned H H' p → Q (.int d) H'
/-- an item of the script -/
theorem at_script {ns : List Int} {k : Int} (h0 : 0 ≤ k) (h1 : k < ns.length) : ∃ z, atI (ns.map V.int) k = some (.int z) := by
  obtain ⟨j, rfl⟩ := Int.eq_ofNat_of_zero_le h0
  have hj : j < ns.length := by omega
  refine ⟨ns[j], atI_nat ?_⟩
  rw [List.getElem?_map, List.getElem?_eq_getElem hj]
  rfl
theorem mod_pos {i j : Int} (h : 0 < j) : 0 ≤ i % j ∧ i % j < j := ⟨Int.emod_nonneg _ (by omega), Int.emod_lt_of_pos _ h⟩
end Gd

namespace Gd
open PySem L2
theorem iteB {c : Bool} {A B : Prop} (h1 : c = true → A) (h2 : c = false → B) : if c = true then A else B := by
  cases c with
  | true => exact iteT (h1 rfl)
  | false => exact iteF (h2 rfl)
/-- what a comprehension over J asks, its list at D -/
def LcW (J : It) (g : TG) (tt : TT) (te : TE) (vs : List Nat) (σ : L2.St) (H1 : Hp) (D : Addr) (Qd : Hp → Prop) : Prop :=
  ∃ W : Nat → Nat → Hp → Prop, (∃ m, W 0 m (upd H1 D (.lst []))) ∧ ∀ i m H, W i m H →
    (J.stop i H ∧ Qd H) ∨ (J.go i H ∧ ∃ Nx : Hp → Prop, (∀ H', Nx H' → ∃ m', m' < m ∧ W (i + 1) m' H') ∧ ∀ x H', J.yld i H x H' →
      g x (wipe σ vs) H' fun σ2 H2 => wipe σ2 vs = wipe σ vs ∧ tt σ2 H2 fun b H3 => if b = true then te σ2 H3 fun y H4 => ∃ acc, H4 D = some (.lst acc) ∧ acc.length < sizeLine ∧ Nx (upd H4 D (.lst (acc ++ [y]))) else Nx H3)
theorem wipe1 (σ : L2.St) (j : Nat) (v : Option V) : wipe ((wipe σ [j]).set j v) [j] = wipe σ [j] := by
  show ((σ.set j none).set j v).set j none = σ.set j none
  rw [List.set_set, List.set_set]
theorem take_snoc {α : Type} {l : List α} {i : Nat} {x : α} (h : l[i]? = some x) : l.take (i + 1) = l.take i ++ [x] := by
  rw [List.take_succ, h]
  rfl
section
variable {K : PySem.W.Frag} {tt : TT} {te : TE} {j : Nat} {σ : L2.St} {H1 : Hp} {D : Addr} {Qd : Hp → Prop}
/-- over a text, all else as it stood -/
theorem lc_text {z : Str} (f : Nat → V) (p : Nat → Bool) (hz : z.length < sizeLine)
    (ht : ∀ c acc (Q : Bool → Hp → Prop), c ∈ z.cps.toList → Q (p c) (upd H1 D (.lst acc)) → tt ((wipe σ [j]).set j (some (.str ⟨#[c]⟩))) (upd H1 D (.lst acc)) Q)
    (he : ∀ c acc (Q : VK), c ∈ z.cps.toList → p c = true → Q (f c) (upd H1 D (.lst acc)) → te ((wipe σ [j]).set j (some (.str ⟨#[c]⟩))) (upd H1 D (.lst acc)) Q)
    (hd : Qd (upd H1 D (.lst ((z.cps.toList.filter p).map f)))) : LcW (Its z) (gName j) tt te [j] σ H1 D Qd := by
  have hl : z.cps.toList.length = z.cps.size := Array.length_toList
  refine lc_it walk_str (fun i H => H = upd H1 D (.lst (((z.cps.toList.take i).filter p).map f))) rfl (fun _ _ _ _ => trivial) ?_ ?_
  · rintro i x H H' hi e ⟨e', c, hc, rfl⟩
    subst e'
    have hc' : z.cps.toList[i]? = some c := by rw [Array.getElem?_toList]; exact hc
    have hm : c ∈ z.cps.toList := List.mem_of_getElem? hc'
    show gName j _ (wipe σ [j]) H' _
    refine ⟨wipe1 _ _ _, ?_⟩
    rw [e]
    refine ht c _ _ hm ?_
    have es := take_snoc hc'
    refine iteB (fun b => ?_) (fun b => ?_)
    · refine he c _ _ hm b ⟨_, upd_same, ?_, ?_⟩
      · rw [List.length_map]
        refine Nat.lt_of_le_of_lt (List.length_filter_le _ _) ?_
        rw [List.length_take]
        have : z.length = z.cps.size := rfl
        omega
      · rw [upd_upd, es, List.filter_append, List.map_append]
        have e1 : [c].filter p = [c] := by rw [List.filter_cons, if_pos b]; rfl
        rw [e1]
        rfl
    · rw [es, List.filter_append, List.map_append]
      have e1 : [c].filter p = [] := by rw [List.filter_cons, if_neg (by rw [b]; exact Bool.false_ne_true)]; rfl
      rw [e1]
      show upd H1 D _ = _
      rw [List.map_nil, List.append_nil]
  · intro H e
    subst e
    rw [← hl, List.take_length]
    exact hd
end
/-- order of single signs -/
theorem lt_sign (a b : Nat) : decide (([a] : List Nat) < [b]) = decide (a < b) := by
  by_cases h : a < b
  · rw [decide_eq_true h]
    exact decide_eq_true (List.Lex.rel h)
  · rw [decide_eq_false h]
    refine decide_eq_false fun z => ?_
    cases z with
    | rel h' => exact h h'
    | cons h' => cases h'
end Gd

namespace Gd
open PySem L2
/-! ### plain texts of a size -/
structure Tx (n : Nat) (x : Str) : Prop where
  len : x.length ≤ n
  asc : ∀ c ∈ x.cps.toList, c < 128
theorem len_list (x : Str) : x.length = x.cps.toList.length := (Array.length_toList).symm
theorem Tx.mono {n m : Nat} {x : Str} (t : Tx n x) (h : n ≤ m) : Tx m x := ⟨Nat.le_trans t.len h, t.asc⟩
theorem app_list (x y : Str) : (x ++ y).cps.toList = x.cps.toList ++ y.cps.toList := Array.toList_append
theorem Tx.app {n m : Nat} {x y : Str} (t : Tx n x) (u : Tx m y) : Tx (n + m) (x ++ y) := by
  refine ⟨?_, fun c hc => ?_⟩
  · have := t.len
    have := u.len
    rw [len_list, app_list, List.length_append, ← len_list, ← len_list]
    omega
  · rw [app_list] at hc
    rcases List.mem_append.mp hc with h | h
    · exact t.asc c h
    · exact u.asc c h
theorem cut_mem {z : Str} {lo hi : Option Int} {c : Nat} (h : c ∈ (cutS z lo hi).cps.toList) : c ∈ z.cps.toList := by
  have h' : c ∈ (z.cps.toList.drop (HT.sIx z.length 0 lo)).take (HT.sIx z.length z.length hi - HT.sIx z.length 0 lo) := h
  exact List.mem_of_mem_drop (List.mem_of_mem_take h')
theorem Tx.cut {n : Nat} {z : Str} (t : Tx n z) (lo hi : Option Int) : Tx n (cutS z lo hi) := ⟨Nat.le_trans (cutS_length z lo hi) t.len, fun c hc => t.asc c (cut_mem hc)⟩
theorem Tx.sign {n : Nat} {z : Str} (t : Tx n z) {c : Nat} (h : c ∈ z.cps.toList) : Tx 1 ⟨#[c]⟩ := ⟨Nat.le_refl _, fun d hd => by
  have : d = c := by simpa using hd
  rw [this]
  exact t.asc c h⟩
/-- a written one: by decide +kernel -/
theorem Tx.of {n : Nat} {x : Str} (h : (decide (x.length ≤ n) && x.cps.toList.all fun c => decide (c < 128)) = true) : Tx n x := by
  rw [Bool.and_eq_true, decide_eq_true_eq, List.all_eq_true] at h
  exact ⟨h.1, fun c hc => of_decide_eq_true (h.2 c hc)⟩
theorem Tx.big {n : Nat} {x : Str} (t : Tx n x) : ∀ c ∈ x.cps.toList, c < 16 ^ 8 := fun c hc => Nat.lt_trans (t.asc c hc) (by decide)
theorem atI_mem {α : Type} {l : List α} {i : Int} {v : α} (h : atI l i = some v) : v ∈ l := by
  unfold atI at h
  cases e : ixN l.length i with
  | none => rw [e] at h; exact nomatch h
  | some j =>
    rw [e] at h
    exact List.mem_of_getElem? h
/-- an item that all of them are like -/
theorem atI_all {α : Type} {l : List α} {p : α → Prop} (h : ∀ v ∈ l, p v) {d : Int} (h0 : 0 ≤ d) (h1 : d < l.length) : ∃ v, atI l d = some v ∧ p v := by
  obtain ⟨j, rfl⟩ := Int.eq_ofNat_of_zero_le h0
  have hj : j < l.length := by omega
  exact ⟨l[j], atI_nat (List.getElem?_eq_getElem hj), h _ (List.getElem_mem hj)⟩
/-- a sign of a text -/
theorem atI_sign {n : Nat} {z : Str} (t : Tx n z) {d : Int} (h0 : 0 ≤ d) (h1 : d < z.length) : ∃ c, atI z.cps.toList d = some c ∧ Tx 1 ⟨#[c]⟩ ∧ c ∈ z.cps.toList := by
  obtain ⟨c, h, hm⟩ := atI_all (l := z.cps.toList) (p := fun c => c ∈ z.cps.toList) (fun _ h => h) h0 (by rw [← len_list]; exact h1)
  exact ⟨c, h, t.sign hm, hm⟩
/-! ### parts and equality of texts -/
theorem str_ext {x y : Str} (h : x.cps.toList = y.cps.toList) : x = y := by
  obtain ⟨a⟩ := x
  obtain ⟨b⟩ := y
  exact congrArg Str.mk (Array.toList_inj.mp h)
theorem str_eq (x y : Str) : decide (V.str x = V.str y) = decide (x.cps.toList = y.cps.toList) :=
  decide_eq_decide.mpr ⟨fun z => by rw [V.str.injEq] at z; rw [z], fun z => by rw [str_ext z]⟩
theorem cut_take (x : Str) (k : Nat) : (cutS x none (some (k : Int))).cps.toList = x.cps.toList.take k := by
  show (x.cps.toList.drop (HT.sIx x.length 0 none)).take (HT.sIx x.length x.length (some (k : Int)) - HT.sIx x.length 0 none) = _
  rw [HT.sIx_none, HT.sIx_nat, List.drop_zero, Nat.sub_zero, len_list]
  rcases Nat.le_total k x.cps.toList.length with h | h
  · rw [Nat.min_eq_left h]
  · rw [Nat.min_eq_right h, List.take_length, List.take_of_length_le h]
theorem cut_drop (x : Str) (k : Nat) : (cutS x (some (k : Int)) none).cps.toList = x.cps.toList.drop k := by
  show (x.cps.toList.drop (HT.sIx x.length 0 (some (k : Int)))).take (HT.sIx x.length x.length none - HT.sIx x.length 0 (some (k : Int))) = _
  rw [HT.sIx_none, HT.sIx_nat, len_list]
  rcases Nat.le_total k x.cps.toList.length with h | h
  · rw [Nat.min_eq_left h, List.take_of_length_le (by rw [List.length_drop]; exact Nat.le_refl _)]
  · rw [Nat.min_eq_right h, Nat.sub_self, List.take_zero, List.drop_of_length_le h]
/-! ### joined -/
theorem join_str (sep : Str) (l : List Str) : Txt.join sep l = Str.join sep l := eq_of_beq (PyProof.Rows.join_plain_closes sep l)
theorem join_len (sep : Str) : ∀ l : List Str, (Str.join sep l).length ≤ (l.map (·.length)).sum + l.length * sep.length
  | [] => Nat.zero_le _
  | [x] => by
    show x.length ≤ _
    simp
  | x :: y :: r => by
    have ih := join_len sep (y :: r)
    show (x ++ sep ++ Str.join sep (y :: r)).length ≤ _
    rw [len_list, app_list, app_list, List.length_append, List.length_append, ← len_list, ← len_list, ← len_list, List.map_cons, List.sum_cons, List.length_cons, Nat.succ_mul]
    omega
theorem join_mem (sep : Str) {c : Nat} : ∀ {l : List Str}, c ∈ (Str.join sep l).cps.toList → c ∈ sep.cps.toList ∨ ∃ y ∈ l, c ∈ y.cps.toList
  | [], h => nomatch (show c ∈ ([] : List Nat) from h)
  | [x], h => .inr ⟨x, List.mem_cons_self, h⟩
  | x :: y :: r, h => by
    have h' : c ∈ (x ++ sep ++ Str.join sep (y :: r)).cps.toList := h
    rw [app_list, app_list, List.mem_append, List.mem_append] at h'
    rcases h' with (h | h) | h
    · exact .inr ⟨x, List.mem_cons_self, h⟩
    · exact .inl h
    · rcases join_mem sep h with h | ⟨z, hz, h⟩
      · exact .inl h
      · exact .inr ⟨z, List.mem_cons_of_mem _ hz, h⟩
theorem join_empty_len : ∀ l : List Str, (Str.join "" l).length = (l.map (·.length)).sum
  | [] => rfl
  | [x] => by
    show x.length = _
    simp
  | x :: y :: r => by
    have ih := join_empty_len (y :: r)
    show (x ++ "" ++ Str.join "" (y :: r)).length = _
    have e : (("" : String) : Str).cps.toList = [] := by decide +kernel
    rw [len_list, app_list, app_list, e, List.append_nil, List.length_append, ← len_list, ← len_list, List.map_cons, List.sum_cons, ih]
theorem sum_le {l : List Nat} {n : Nat} (h : ∀ x ∈ l, x ≤ n) : l.sum ≤ l.length * n := by
  induction l with
  | nil => exact Nat.zero_le _
  | cons a l ih =>
    have := ih fun x hx => h x (List.mem_cons_of_mem _ hx)
    have := h a List.mem_cons_self
    rw [List.sum_cons, List.length_cons, Nat.succ_mul]
    omega
theorem Tx.join {n m k : Nat} {sep : Str} {l : List Str} (s : Tx m sep) (h : ∀ y ∈ l, Tx n y) (hl : l.length ≤ k) : Tx (k * n + k * m) (Txt.join sep l) := by
  rw [join_str]
  refine ⟨?_, fun c hc => ?_⟩
  · have h1 := join_len sep l
    have h2 : (l.map (·.length)).sum ≤ l.length * n := by
      have := sum_le (l := l.map (·.length)) (n := n) fun x hx => by
        obtain ⟨y, hy, rfl⟩ := List.mem_map.mp hx
        exact (h y hy).len
      rw [List.length_map] at this
      exact this
    have h3 : l.length * n ≤ k * n := Nat.mul_le_mul_right _ hl
    have h4 : l.length * sep.length ≤ k * m := Nat.mul_le_mul hl s.len
    omega
  · rcases join_mem sep hc with h' | ⟨y, hy, h'⟩
    · exact s.asc c h'
    · exact (h y hy).asc c h'
/-! ### all but the pool is kept -/
def Kept (H H' : Hp) (p : Addr) : Prop := BoxAt H' p ∧ ∀ q o, q ≠ p → H q = some o → H' q = some o
theorem Kept.refl {H : Hp} {p : Addr} (b : BoxAt H p) : Kept H H p := ⟨b, fun _ _ _ h => h⟩
theorem Kept.trans {H H1 H2 : Hp} {p : Addr} (a : Kept H H1 p) (b : Kept H1 H2 p) : Kept H H2 p := ⟨b.1, fun q o hq h => b.2 q o hq (a.2 q o hq h)⟩
theorem Kept.box {H H' : Hp} {p : Addr} (k : Kept H H' p) : BoxAt H' p := k.1
theorem Turned.kept {H H' : Hp} {p : Addr} (t : Turned H H' p) : Kept H H' p := ⟨t.1, fun q o hq h => t.at hq h⟩
theorem Kept.new {H H' : Hp} {p l : Addr} {o : HO} (k : Kept H H' p) (h : H' l = none) : Kept H (upd H' l o) p :=
  ⟨k.1.upd h, fun q u hq hu => by rw [upd_ne (ne_of_none (k.2 q u hq hu) h)]; exact k.2 q u hq hu⟩
theorem Kept.turn {H H1 H2 : Hp} {p : Addr} (k : Kept H H1 p) (t : Turned H1 H2 p) : Kept H H2 p := k.trans t.kept
theorem Kept.same {H H1 H2 : Hp} {p : Addr} (k : Kept H H1 p) (s : Same H1 H2) : Kept H H2 p := by
  obtain ⟨⟨a, b, c, h, r⟩, f⟩ := k
  exact ⟨⟨a, b, c, s _ _ h, r⟩, fun q o hq hh => s _ _ (f q o hq hh)⟩
/-- fresh behind is fresh ahead -/
theorem Kept.free {H H' : Hp} {p q : Addr} (k : Kept H H' p) (hb : BoxAt H p) (h : H' q = none) : H q = none := by
  cases e : H q with
  | none => rfl
  | some o =>
    by_cases hq : q = p
    · subst hq
      obtain ⟨_, hh⟩ := k.1.some
      rw [hh] at h
      exact nomatch h
    · rw [k.2 q o hq e] at h
      exact nomatch h
theorem Kept.ne {H : Hp} {p q : Addr} (b : BoxAt H p) (h : H q = none) : q ≠ p := by
  rintro rfl
  obtain ⟨_, hh⟩ := b.some
  rw [hh] at h
  exact nomatch h
theorem Kept.put {H H' : Hp} {p D : Addr} {o : HO} (k : Kept H H' p) (hb : BoxAt H p) (h : H D = none) : Kept H (upd H' D o) p := by
  have hne : D ≠ p := Kept.ne hb h
  obtain ⟨⟨a, b, c, hh, r⟩, f⟩ := k
  exact ⟨⟨a, b, c, by rw [upd_ne hne.symm]; exact hh, r⟩, fun q u hq hu => by rw [upd_ne (ne_of_none hu h)]; exact f q u hq hu⟩
/-- no test: the turn gives -/
theorem yes_go {σ : L2.St} {H : Hp} {A B : Hp → Prop} (h : A H) : tYes σ H (fun b H' => if b = true then A H' else B H') := by
  show if true = true then A H else B H
  exact iteT h
/-! a word between a statement and what follows -/
def tMid (t u : TS) : TS := fun D σ H => ∃ M : L2.St → Hp → Prop, t { D with nx := M } σ H ∧ ∀ σ' H', M σ' H' → u D σ' H'
theorem pss_mid {X : Cx} {st : Stmt} {rest : List Stmt} {t u : TS} (h1 : PS X st t) (h2 : PSs X rest u) : PSs X (st :: rest) (tMid t u) := by
  refine ⟨fun pins s σ H D I ⟨M, hm, hu⟩ => ?_⟩
  refine wpAny_execs_cons (thn (h1.run pins s σ H { D with nx := M } I hm) fun f s1 q => ?_)
  match f, q with
  | .next, ⟨σ', H', I', q⟩ => exact h2.run pins s1 σ' H' D I' (hu σ' H' q)
  | .ret _, q => exact q
  | .brk, q => exact q
  | .cont, q => exact q
end Gd

namespace Gd
open PySem L2
/-- a list of signs == [] -/
theorem signs_nil {K : PySem.W.Frag} {H : Hp} {D D2 : Addr} {bs : List Nat} (h1 : H D = some (.lst (bs.map fun c => V.str ⟨#[c]⟩))) (h2 : H D2 = some (.lst [])) (asc : ∀ c ∈ bs, c < 128) {Q : VK} (q : Q (.bl bs.isEmpty) H) : rEqD K (.ref D) (.ref D2) H Q := by
  have dp : ∀ l : List Nat, DpAll K H (l.map fun c => V.str ⟨#[c]⟩) (l.map fun c => PyData.str ⟨#[c]⟩) := by
    intro l
    induction l with
    | nil => exact .nil
    | cons c l ih => exact .cons (.str _) ih
  have shp : ∀ l : List Nat, (∀ c ∈ l, c < 128) → SeqAt.shaped (.list (l.map fun c => PyData.str ⟨#[c]⟩)) = true := by
    intro l hl
    unfold SeqAt.shaped
    have h1 : ∀ l : List Nat, (∀ c ∈ l, c < 128) → PyData.canLayAll0 (l.map fun c => PyData.str ⟨#[c]⟩) = true := by
      intro l
      induction l with
      | nil => exact fun _ => rfl
      | cons c l ih =>
        intro h
        show (PyData.canLay0 (.str ⟨#[c]⟩) && PyData.canLayAll0 (l.map fun c => PyData.str ⟨#[c]⟩)) = true
        rw [ih fun x hx => h x (List.mem_cons_of_mem _ hx), Bool.and_true]
        show (#[c] : Array Nat).all (· < 0x110000) = true
        have := h c List.mem_cons_self
        simp
        omega
    have h2 : ∀ l : List Nat, PyData.depthAll (l.map fun c => PyData.str ⟨#[c]⟩) = 0 := by
      intro l
      induction l with
      | nil => rfl
      | cons c l ih =>
        show max 0 (PyData.depthAll (l.map fun c => PyData.str ⟨#[c]⟩)) = 0
        rw [ih]
        rfl
    rw [Bool.and_eq_true]
    refine ⟨h1 l hl, decide_eq_true ?_⟩
    show PyData.depthAll (l.map fun c => PyData.str ⟨#[c]⟩) + 1 ≤ 64
    rw [h2]
    decide
  refine ⟨.list (bs.map fun c => PyData.str ⟨#[c]⟩), .list [], .lst (SqL.of h1) (dp bs), .lst (SqL.of h2) .nil, shp bs asc, by decide, ?_⟩
  have eqv : PyData.eqv (.list (bs.map fun c => PyData.str ⟨#[c]⟩)) (.list []) = bs.isEmpty := by
    cases bs <;> rfl
  rw [eqv]
  exact q
/-! ### small letters -/
def low (c : Nat) : Bool := decide (97 ≤ c) && decide (c ≤ 122)
theorem low_fst (c : Nat) : (!decide ((({ cps := #[c] } : Str)).cps.toList < (("a" : String) : Str).cps.toList)) = decide (97 ≤ c) := by
  show (!decide (([c] : List Nat) < [97])) = _
  rw [lt_sign, ← decide_not]
  exact decide_eq_decide.mpr (by omega)
theorem low_snd (c : Nat) : (!decide ((("z" : String) : Str).cps.toList < (({ cps := #[c] } : Str)).cps.toList)) = decide (c ≤ 122) := by
  show (!decide (([122] : List Nat) < [c])) = _
  rw [lt_sign, ← decide_not]
  exact decide_eq_decide.mpr (by omega)
end Gd

namespace Gd
open PySem PySem.Spec PyProof.Rows L2
theorem repS_same {z : Str} {n : Int} (h : n = 1 ∨ z.length = 0) : repS z n = z := by
  refine str_ext ?_
  rw [repS_list]
  rcases h with rfl | h
  · show (List.replicate 1 z.cps.toList).flatten = _
    simp
  · have e : z.cps.toList = [] := by
      rw [← List.length_eq_zero_iff, ← len_list]
      exact h
    rw [e]
    simp
theorem Tx.reps {m : Nat} {x : Str} (t : Tx m x) (n : Int) : Tx (n.toNat * m) (repS x n) := by
  refine ⟨?_, fun c hc => ?_⟩
  · rw [len_list, repS_list, List.length_flatten, List.map_replicate]
    have h1 := sum_le (l := List.replicate n.toNat x.cps.toList.length) (n := m) fun k hk => by
      rw [(List.mem_replicate.mp hk).2, ← len_list]
      exact t.len
    rw [List.length_replicate] at h1
    exact h1
  · rw [repS_list] at hc
    obtain ⟨l, hl, hc⟩ := List.mem_flatten.mp hc
    rw [(List.mem_replicate.mp hl).2] at hc
    exact t.asc c hc
section
variable {X : Cx}
theorem op_repA : OpR X (binaryOp .Mult) (fun x y H Q => ∃ z n, x = .str z ∧ y = .int n ∧ 1 ≤ n ∧ n < 1000000 ∧ z.length * n.toNat ≤ sizeLine ∧ Q (.str (repS z n)) H) := by
  intro pins s σ H x y v u Q I rx ry h
  obtain ⟨z, n, rfl, rfl, h1, h2, hz, q⟩ := h
  by_cases hs : n = 1 ∨ z.length = 0
  · rw [repS_same hs] at q
    obtain ⟨t, rfl⟩ := rx
    obtain ⟨t', rfl⟩ := ry
    have e1 : (n == 1 || z.length == 0) = true := by
      rw [Bool.or_eq_true]
      rcases hs with h | h
      · exact .inl (beq_iff_eq.mpr h)
      · exact .inr (beq_iff_eq.mpr h)
    have hb : ¬ (z.length : Int) > (2 ^ 63 - 1) / n := by
      intro c
      have hs := hz
      rw [sizeLine_eq] at hs
      have h3 : (z.length : Int) * n ≤ 16777216 := by
        have h4 : ((z.length * n.toNat : Nat) : Int) ≤ 16777216 := Int.ofNat_le.mpr hs
        rw [Int.natCast_mul, Int.toNat_of_nonneg (by omega)] at h4
        exact h4
      have h5 : (z.length : Int) ≤ 16777216 := by
        have h6 : (0 : Int) ≤ z.length := by omega
        have h7 : (z.length : Int) * 1 ≤ (z.length : Int) * n := Int.mul_le_mul_of_nonneg_left (by omega) (by omega)
        omega
      have h8 : (2 ^ 63 - 1 : Int) / n ≥ (2 ^ 63 - 1) / 1000000 := by
        have : (2 ^ 63 - 1 : Int) / 1000000 * n ≤ (2 ^ 63 - 1) := by
          have h9 : (2 ^ 63 - 1 : Int) / 1000000 = 9223372036854 := by decide
          rw [h9]
          omega
        exact (Int.le_ediv_iff_mul_le (by omega)).mpr this
      have h10 : (2 ^ 63 - 1 : Int) / 1000000 = 9223372036854 := by decide
      omega
    refine PySem.P.mul_str (by rw [Bool.or_eq_false_iff]; exact ⟨decide_eq_false (by omega), decide_eq_false (by omega)⟩) (fun _ _ => hb) (fun _ _ => ?_) ?_
    · unfold Builtin.Str.tooLong
      exact decide_eq_false (by omega)
    · rw [if_neg (by omega), if_pos e1]
      first
        | exact ⟨.str z, H, I, ⟨t, rfl⟩, q⟩
        | (unfold Made.post; exact ⟨.str z, H, I, ⟨t, rfl⟩, q⟩)
  · refine op_repS pins s σ H _ _ v u Q I rx ry ⟨z, n, rfl, rfl, ?_, h2, fun z => hs (.inr z), hz, q⟩
    have : n ≠ 1 := fun z => hs (.inl z)
    omega
end
end Gd

namespace Gd
open PySem L2
/-! ### what has come since -/
def newer (H H' : Hp) : Hp := fun a => match H a with
  | none => H' a
  | some _ => none
section
variable {H H' H'' : Hp} {a : Addr} {o : HO}
theorem newer_at (h : H a = none) (h' : H' a = some o) : newer H H' a = some o := by
  unfold newer
  rw [h]
  exact h'
theorem newer_of (h : newer H H' a = some o) : H a = none ∧ H' a = some o := by
  unfold newer at h
  cases e : H a with
  | none => rw [e] at h; exact ⟨rfl, h⟩
  | some u => rw [e] at h; exact nomatch h
theorem newer_same : Same (newer H H') H' := fun _ _ h => (newer_of h).2
theorem newer_go (k : ∀ b u, H b = none → H' b = some u → H'' b = some u) : Same (newer H H') (newer H H'') := fun b u h => newer_at (newer_of h).1 (k b u (newer_of h).1 (newer_of h).2)
end
/-! ### data of a depth -/
def Wd : Nat → Nat
  | 0 => 40000
  | n + 1 => 4 * Wd n + 1000
def Item (K : PySem.W.Frag) (G : Hp) (n : Nat) (v : V) : Prop := ∃ d, Da K G v d ∧ Ok1 d ∧ wid d ≤ Wd n ∧ d.depth ≤ n
section
variable {K : PySem.W.Frag} {G G' : Hp} {n : Nat}
theorem Item.same {v : V} (s : Same G G') : Item K G n v → Item K G' n v
  | ⟨d, h, r⟩ => ⟨d, h.same s, r⟩
theorem wd_pos : ∀ n, 1000 ≤ Wd n
  | 0 => by decide
  | n + 1 => by
    show 1000 ≤ 4 * Wd n + 1000
    omega
theorem Item.up {v : V} : Item K G n v → Item K G (n + 1) v
  | ⟨d, h, o, w, p⟩ => ⟨d, h, o, by
    show wid d ≤ 4 * Wd n + 1000
    omega, by omega⟩
theorem items : ∀ {ys : List V}, (∀ y ∈ ys, Item K G n y) → ∃ ds, DaL K G ys ds ∧ OkL ds ∧ widL ds ≤ ys.length * (Wd n + 2) ∧ PyData.depthAll ds ≤ n
  | [], _ => ⟨[], .nil, trivial, Nat.zero_le _, Nat.zero_le _⟩
  | y :: ys, h => by
    obtain ⟨d, h1, h2, h3, h4⟩ := h y List.mem_cons_self
    obtain ⟨ds, g1, g2, g3, g4⟩ := items (ys := ys) fun x hx => h x (List.mem_cons_of_mem _ hx)
    refine ⟨d :: ds, .cons h1 g1, ⟨h2, g2⟩, ?_, ?_⟩
    · show wid d + 2 + widL ds ≤ (ys.length + 1) * (Wd n + 2)
      rw [Nat.succ_mul]
      omega
    · show max d.depth (PyData.depthAll ds) ≤ n
      omega
theorem three {ys : List V} (hl : ys.length ≤ 3) : ys.length * (Wd n + 2) ≤ 3 * (Wd n + 2) := Nat.mul_le_mul_right _ hl
theorem item_lst {a : Addr} {ys : List V} (h : G a = some (.lst ys)) (hl : ys.length ≤ 3) (hy : ∀ y ∈ ys, Item K G n y) : Item K G (n + 1) (.ref a) := by
  obtain ⟨ds, g1, g2, g3, g4⟩ := items hy
  have := three (n := n) hl
  exact ⟨.list ds, .lst h g1, g2, by show widL ds + 2 ≤ 4 * Wd n + 1000; have := wd_pos n; omega, by show PyData.depthAll ds + 1 ≤ n + 1; omega⟩
theorem item_tup {a : Addr} {ys : List V} (h : G a = some (.tup ys)) (hl : ys.length ≤ 3) (hy : ∀ y ∈ ys, Item K G n y) : Item K G (n + 1) (.ref a) := by
  obtain ⟨ds, g1, g2, g3, g4⟩ := items hy
  have := three (n := n) hl
  exact ⟨.tuple ds, .tup (SqT.of h) g1, g2, by show widL ds + 3 ≤ 4 * Wd n + 1000; have := wd_pos n; omega, by show PyData.depthAll ds + 1 ≤ n + 1; omega⟩
/-- a small key -/
def SmK : Key → Prop
  | .inl _ => False
  | .inr x => Tx 5 x
theorem pairs : ∀ {kvs : List (Key × V)}, (∀ kv ∈ kvs, SmK kv.1 ∧ Item K G n kv.2) →
    ∃ ds, DaL K G (kvs.map (·.2)) ds ∧ OkK ((kvs.map fun p => kD p.1).zip ds) ∧ widK ((kvs.map fun p => kD p.1).zip ds) ≤ kvs.length * (Wd n + 60) ∧ PyData.depthKv ((kvs.map fun p => kD p.1).zip ds) ≤ n
  | [], _ => ⟨[], .nil, trivial, Nat.zero_le _, Nat.zero_le _⟩
  | kv :: kvs, h => by
    obtain ⟨hk, d, h1, h2, h3, h4⟩ := h kv List.mem_cons_self
    obtain ⟨ds, g1, g2, g3, g4⟩ := pairs (kvs := kvs) fun x hx => h x (List.mem_cons_of_mem _ hx)
    obtain ⟨k, v⟩ := kv
    cases k with
    | inl i => exact hk.elim
    | inr x =>
      have tx : Tx 5 x := hk
      have := tx.len
      refine ⟨d :: ds, .cons h1 g1, ⟨tx.big, h2, g2⟩, ?_, ?_⟩
      · show (10 * x.length + 2) + wid d + 4 + widK ((kvs.map fun p => kD p.1).zip ds) ≤ (kvs.length + 1) * (Wd n + 60)
        have e : (kvs.length + 1) * (Wd n + 60) = kvs.length * (Wd n + 60) + (Wd n + 60) := Nat.succ_mul _ _
        omega
      · show max (max 0 d.depth) (PyData.depthKv ((kvs.map fun p => kD p.1).zip ds)) ≤ n
        omega
theorem item_dct {a : Addr} {kvs : List (Key × V)} (h : G a = some (.dK kvs)) (hl : kvs.length ≤ 3) (hy : ∀ kv ∈ kvs, SmK kv.1 ∧ Item K G n kv.2) : Item K G (n + 1) (.ref a) := by
  obtain ⟨ds, g1, g2, g3, g4⟩ := pairs hy
  have : kvs.length * (Wd n + 60) ≤ 3 * (Wd n + 60) := Nat.mul_le_mul_right _ hl
  exact ⟨.dict _, .dct h g1, g2, by show widK _ + 2 ≤ 4 * Wd n + 1000; have := wd_pos n; omega, by show PyData.depthKv _ + 1 ≤ n + 1; omega⟩
end
theorem put_all {P : Key → Prop} {R : V → Prop} {acc : List (Key × V)} {k : Key} {v : V} (h : ∀ kv ∈ acc, P kv.1 ∧ R kv.2) (hk : P k) (hv : R v) : ∀ kv ∈ putK acc k v, P kv.1 ∧ R kv.2 := by
  intro kv hm
  unfold putK at hm
  split at hm
  · obtain ⟨u, hu, rfl⟩ := List.mem_map.mp hm
    split
    · exact ⟨(h u hu).1, hv⟩
    · exact h u hu
  · rcases List.mem_append.mp hm with e | e
    · exact h kv e
    · have : kv = (k, v) := by simpa using e
      rw [this]
      exact ⟨hk, hv⟩
theorem merge_all {P : Key → Prop} {R : V → Prop} : ∀ {more acc : List (Key × V)}, (∀ kv ∈ acc, P kv.1 ∧ R kv.2) → (∀ kv ∈ more, P kv.1 ∧ R kv.2) → ∀ kv ∈ mergeK acc more, P kv.1 ∧ R kv.2
  | [], acc, h, _ => h
  | m :: r, acc, h, hm => by
    show ∀ kv ∈ mergeK (putK acc m.1 m.2) r, _
    have := hm m List.mem_cons_self
    exact merge_all (put_all h this.1 this.2) fun x hx => hm x (List.mem_cons_of_mem _ hx)
theorem key_small {i : Nat} (h : i < 4) : Tx 5 (((toString ((i : Nat) : Int) : String)) : Str) := by
  have : i = 0 ∨ i = 1 ∨ i = 2 ∨ i = 3 := by omega
  rcases this with rfl | rfl | rfl | rfl <;> exact .of (by decide +kernel)
end Gd

namespace Gd
open PySem L2
/-! ### trees of expressions -/
inductive Tr where
  | none | empty | letter (c : Nat) | name (x : Str) | sgn (k : Fin 3) (t : Tr) | seq (l : List Tr) | cho (l : List Tr)
abbrev sNone : Str := "none"
abbrev sEmpty : Str := "empty"
abbrev sLetter : Str := "letter"
abbrev sName : Str := "name"
abbrev sSeq : Str := "sequence"
abbrev sCho : Str := "choice"
def sSgn (k : Fin 3) : Str := if k = 0 then "many" else if k = 1 then "some" else "maybe"
def Tr.kind : Tr → Str
  | .none => sNone
  | .empty => sEmpty
  | .letter _ => sLetter
  | .name _ => sName
  | .sgn k _ => sSgn k
  | .seq _ => sSeq
  | .cho _ => sCho
mutual
def Tr.height : Tr → Nat
  | .none => 1
  | .empty => 1
  | .letter _ => 1
  | .name _ => 1
  | .sgn _ t => t.height + 1
  | .seq l => heights l + 1
  | .cho l => heights l + 1
def heights : List Tr → Nat
  | [] => 1
  | t :: l => max t.height (heights l)
end
mutual
/-- well formed -/
def Tr.Wf : Tr → Prop
  | .none => True
  | .empty => True
  | .letter c => low c = true
  | .name x => Tx 8 x ∧ 1 ≤ x.length ∧ x.cps.toList.all low = true
  | .sgn _ t => t.Wf
  | .seq l => 2 ≤ l.length ∧ l.length ≤ 100000 ∧ Wfs l
  | .cho l => 2 ≤ l.length ∧ l.length ≤ 100000 ∧ Wfs l
def Wfs : List Tr → Prop
  | [] => True
  | t :: l => t.Wf ∧ Wfs l
end
mutual
inductive TrAt (H : Hp) : V → Tr → Prop
  | none {a : Addr} : H a = some (.tup [.str sNone]) → TrAt H (.ref a) .none
  | empty {a : Addr} : H a = some (.tup [.str sEmpty]) → TrAt H (.ref a) .empty
  | letter {a : Addr} {c : Nat} : H a = some (.tup [.str sLetter, .str ⟨#[c]⟩]) → TrAt H (.ref a) (.letter c)
  | name {a : Addr} {x : Str} : H a = some (.tup [.str sName, .str x]) → TrAt H (.ref a) (.name x)
  | sgn {a : Addr} {k : Fin 3} {v : V} {t : Tr} : H a = some (.tup [.str (sSgn k), v]) → TrAt H v t → TrAt H (.ref a) (.sgn k t)
  | seq {a b : Addr} {vs : List V} {ts : List Tr} : H a = some (.tup [.str sSeq, .ref b]) → H b = some (.lst vs) → TrsAt H vs ts → TrAt H (.ref a) (.seq ts)
  | cho {a b : Addr} {vs : List V} {ts : List Tr} : H a = some (.tup [.str sCho, .ref b]) → H b = some (.lst vs) → TrsAt H vs ts → TrAt H (.ref a) (.cho ts)
inductive TrsAt (H : Hp) : List V → List Tr → Prop
  | nil : TrsAt H [] []
  | cons {v : V} {vs : List V} {t : Tr} {ts : List Tr} : TrAt H v t → TrsAt H vs ts → TrsAt H (v :: vs) (t :: ts)
end
section
variable {H H' : Hp}
mutual
theorem TrAt.same (e : Same H H') : ∀ {v : V} {t : Tr}, TrAt H v t → TrAt H' v t
  | _, _, .none h => .none (e _ _ h)
  | _, _, .empty h => .empty (e _ _ h)
  | _, _, .letter h => .letter (e _ _ h)
  | _, _, .name h => .name (e _ _ h)
  | _, _, .sgn h t => .sgn (e _ _ h) (TrAt.same e t)
  | _, _, .seq h g t => .seq (e _ _ h) (e _ _ g) (TrsAt.same e t)
  | _, _, .cho h g t => .cho (e _ _ h) (e _ _ g) (TrsAt.same e t)
theorem TrsAt.same (e : Same H H') : ∀ {vs : List V} {ts : List Tr}, TrsAt H vs ts → TrsAt H' vs ts
  | _, _, .nil => .nil
  | _, _, .cons h r => .cons (TrAt.same e h) (TrsAt.same e r)
end
theorem TrsAt.length : ∀ {vs : List V} {ts : List Tr}, TrsAt H vs ts → vs.length = ts.length
  | _, _, .nil => rfl
  | _, _, .cons _ r => by rw [List.length_cons, List.length_cons, r.length]
/-- a part -/
theorem TrsAt.at : ∀ {vs : List V} {ts : List Tr} {i : Nat} {v : V}, TrsAt H vs ts → vs[i]? = some v → ∃ t, ts[i]? = some t ∧ TrAt H v t
  | _, _, 0, _, .cons h _, e => by
    injection e with e
    subst e
    exact ⟨_, rfl, h⟩
  | _, _, i + 1, _, .cons _ r, e => TrsAt.at (i := i) r e
end
/-- its pair of kind and part, as the program reads it -/
theorem TrAt.tup {H : Hp} {v : V} {t : Tr} (h : TrAt H v t) : ∃ a xs, v = .ref a ∧ H a = some (.tup (.str t.kind :: xs)) := by
  cases h with
  | none h => exact ⟨_, _, rfl, h⟩
  | empty h => exact ⟨_, _, rfl, h⟩
  | letter h => exact ⟨_, _, rfl, h⟩
  | name h => exact ⟨_, _, rfl, h⟩
  | sgn h _ => exact ⟨_, _, rfl, h⟩
  | seq h _ _ => exact ⟨_, _, rfl, h⟩
  | cho h _ _ => exact ⟨_, _, rfl, h⟩
theorem height_pos : ∀ t : Tr, 1 ≤ t.height
  | .none => Nat.le_refl _
  | .empty => Nat.le_refl _
  | .letter _ => Nat.le_refl _
  | .name _ => Nat.le_refl _
  | .sgn _ t => by show 1 ≤ t.height + 1; omega
  | .seq l => by show 1 ≤ heights l + 1; omega
  | .cho l => by show 1 ≤ heights l + 1; omega
theorem heights_at : ∀ {l : List Tr} {i : Nat} {t : Tr}, l[i]? = some t → t.height ≤ heights l
  | [], _, _, e => nomatch e
  | u :: l, 0, t, e => by
    injection e with e
    subst e
    exact Nat.le_max_left _ _
  | u :: l, i + 1, t, e => Nat.le_trans (heights_at (l := l) (i := i) e) (Nat.le_max_right _ _)
theorem wfs_at : ∀ {l : List Tr} {i : Nat} {t : Tr}, Wfs l → l[i]? = some t → t.Wf
  | [], _, _, _, e => nomatch e
  | u :: l, 0, t, h, e => by
    injection e with e
    subst e
    exact h.1
  | u :: l, i + 1, t, h, e => wfs_at (l := l) (i := i) h.2 e
end Gd

namespace K2
open PySem L2 Gd
/-! ### a number's signs -/
def isDg (c : Nat) : Bool := decide (48 ≤ c) && decide (c ≤ 57)
/-- what stands behind the sign -/
def body : List Nat → List Nat
  | [] => []
  | c :: r => if c = 45 then r else c :: r
def dOk (d : List Nat) : Bool := decide (1 ≤ d.length) && decide (d.length ≤ 30) && d.all isDg
def nOk (l : List Nat) : Bool := dOk (body l) && (!decide ((body l).head? = some 48) || decide (l = [48]))
def stp (a : Int) (c : Nat) : Int := a * 10 + ((c : Int) - 48)
def foldV (d : List Nat) : Int := d.foldl stp 0
def valL (l : List Nat) : Int := if l.head? = some 45 then -foldV (body l) else foldV (body l)
/-- the number that a value's signs say -/
def numV : V → Option Int
  | .str x => if nOk x.cps.toList = true then some (valL x.cps.toList) else none
  | _ => none
theorem isDg_iff {c : Nat} : isDg c = true ↔ 48 ≤ c ∧ c ≤ 57 := by
  unfold isDg
  rw [Bool.and_eq_true, decide_eq_true_eq, decide_eq_true_eq]
theorem fold_nat : ∀ (d : List Nat) (a : Nat), (∀ c ∈ d, 48 ≤ c ∧ c ≤ 57) → d.foldl stp (a : Int) = ((d.foldl (fun a c => a * 10 + (c - 48)) a : Nat) : Int)
  | [], _, _ => rfl
  | c :: d, a, h => by
    have hc := h c List.mem_cons_self
    have e : stp (a : Int) c = ((a * 10 + (c - 48) : Nat) : Int) := by unfold stp; omega
    rw [List.foldl_cons, List.foldl_cons, e]
    exact fold_nat d _ fun x hx => h x (List.mem_cons_of_mem _ hx)
theorem dOk_iff {d : List Nat} : dOk d = true ↔ 1 ≤ d.length ∧ d.length ≤ 30 ∧ ∀ c ∈ d, 48 ≤ c ∧ c ≤ 57 := by
  unfold dOk
  rw [Bool.and_eq_true, Bool.and_eq_true, decide_eq_true_eq, decide_eq_true_eq, List.all_eq_true]
  constructor
  · exact fun ⟨⟨a, b⟩, c⟩ => ⟨a, b, fun x hx => isDg_iff.mp (c x hx)⟩
  · exact fun ⟨a, b, c⟩ => ⟨⟨a, b⟩, fun x hx => isDg_iff.mpr (c x hx)⟩
theorem foldV_nat {d : List Nat} (h : ∀ c ∈ d, 48 ≤ c ∧ c ≤ 57) : foldV d = ((NumText.digitsVal d : Nat) : Int) := by
  have := fold_nat d 0 h
  exact this
/-- int(text) -/
theorem int_num {x : Str} (h : nOk x.cps.toList = true) : intText? x = some (valL x.cps.toList) ∧ x.length ≤ 31 := by
  unfold nOk at h
  rw [Bool.and_eq_true, dOk_iff] at h
  obtain ⟨⟨h1, h2, h3⟩, _⟩ := h
  have hl : x.length = x.cps.toList.length := (Array.length_toList).symm
  cases e : x.cps.toList with
  | nil => rw [e] at h1; exact absurd h1 (by decide)
  | cons c r =>
    rw [e] at h1 h2 h3
    by_cases hc : c = 45
    · subst hc
      have eb : body (45 :: r) = r := by
        show (if (45 : Nat) = 45 then r else 45 :: r) = r
        rw [if_pos rfl]
      rw [eb] at h1 h2 h3
      have l2 : x.length ≤ 31 := by
        rw [hl, e, List.length_cons]
        omega
      refine ⟨?_, l2⟩
      rw [PySem.intText_neg e (fun c hc => h3 c hc) (by intro z; rw [z] at h1; exact absurd h1 (by decide)) (by omega)]
      show _ = some (if (some 45 : Option Nat) = some 45 then -foldV (body (45 :: r)) else _)
      rw [if_pos rfl, eb, foldV_nat h3]
    · have eb : body (c :: r) = c :: r := by
        show (if c = 45 then r else c :: r) = c :: r
        rw [if_neg hc]
      rw [eb] at h1 h2 h3
      have l2 : x.length ≤ 31 := by
        rw [hl, e]
        omega
      refine ⟨?_, l2⟩
      have h3' : NumText.AllDigits x.cps.toList := by
        rw [e]
        exact h3
      rw [PySem.intText_digits h3' (by rw [e]; exact List.cons_ne_nil _ _) (by omega), e]
      show _ = some (if (some c : Option Nat) = some 45 then _ else foldV (body (c :: r)))
      rw [if_neg (by intro z; exact hc (Option.some.inj z)), eb, foldV_nat h3]
/-- a number of at most thirty digits -/
theorem foldV_bound : ∀ (d : List Nat) (a : Int), (∀ c ∈ d, 48 ≤ c ∧ c ≤ 57) → 0 ≤ a → 0 ≤ d.foldl stp a ∧ d.foldl stp a < (a + 1) * 10 ^ d.length
  | [], a, _, h => ⟨h, by show a < (a + 1) * 1; omega⟩
  | c :: d, a, hd, h => by
    have hc := hd c List.mem_cons_self
    have h0 : 0 ≤ stp a c := by unfold stp; omega
    obtain ⟨i1, i2⟩ := foldV_bound d (stp a c) (fun x hx => hd x (List.mem_cons_of_mem _ hx)) h0
    refine ⟨i1, Int.lt_of_lt_of_le i2 ?_⟩
    have e : (a + 1) * 10 ^ (d.length + 1) = ((a + 1) * 10) * 10 ^ d.length := by
      rw [Int.pow_succ, Int.mul_comm (10 ^ d.length) 10, Int.mul_assoc]
    show _ ≤ (a + 1) * 10 ^ (d.length + 1)
    rw [e]
    exact Int.mul_le_mul_of_nonneg_right (by unfold stp; omega) (Int.pow_nonneg (by decide))
theorem valL_bound {l : List Nat} (h : nOk l = true) : -(10 ^ 30) < valL l ∧ valL l < 10 ^ 30 := by
  unfold nOk at h
  rw [Bool.and_eq_true, dOk_iff] at h
  obtain ⟨⟨h1, h2, h3⟩, _⟩ := h
  obtain ⟨b1, b2⟩ := foldV_bound (body l) 0 h3 (Int.le_refl 0)
  have b3 : foldV (body l) < 10 ^ (body l).length := by
    have := b2
    rw [Int.zero_add, Int.one_mul] at this
    exact this
  have b4 : (10 : Int) ^ (body l).length ≤ 10 ^ 30 := by
    have := Nat.pow_le_pow_right (n := 10) (by decide) h2
    have q : ((10 ^ (body l).length : Nat) : Int) ≤ ((10 ^ 30 : Nat) : Int) := Int.ofNat_le.mpr this
    rw [Int.natCast_pow, Int.natCast_pow] at q
    exact q
  have b5 : 0 ≤ foldV (body l) := b1
  have b6 : foldV (body l) < 10 ^ 30 := Int.lt_of_lt_of_le b3 b4
  unfold valL
  split <;> constructor <;> omega
/-- text.removeprefix("-") -/
theorem prefix_body (x : Str) : (Txt.removeprefix x "-").cps.toList = body x.cps.toList := by
  rw [StrLaws.removeprefix_eq]
  have e1 : (("-" : String) : Str).length = 1 := by decide +kernel
  have e2 : (("-" : String) : Str).cps = #[45] := by decide +kernel
  have hs : Builtin.Str.subAt x "-" 0 = decide (x.cps.toList.head? = some 45) := by
    unfold Builtin.Str.subAt
    rw [e1, e2, Bool.eq_iff_iff, beq_iff_eq, decide_eq_true_eq]
    have hx : x.cps.extract 0 (0 + 1) = (x.cps.toList.take 1).toArray := by
      apply Array.toList_inj.mp
      simp
    rw [hx]
    cases x.cps.toList with
    | nil => simp
    | cons c r => simp
  rw [e1, hs]
  have hl : x.length = x.cps.toList.length := (Array.length_toList).symm
  cases e : x.cps.toList with
  | nil =>
    rw [if_neg (by simp)]
    rw [e]
    rfl
  | cons c r =>
    rw [e, List.length_cons] at hl
    by_cases hc : c = 45
    · subst hc
      rw [if_pos (by simp; omega)]
      have eb : body (45 :: r) = r := by
        show (if (45 : Nat) = 45 then r else 45 :: r) = r
        rw [if_pos rfl]
      rw [eb, hl]
      simp
    · rw [if_neg (by simp [hc]), e]
      show c :: r = if c = 45 then r else c :: r
      rw [if_neg hc]
theorem body_len : ∀ l : List Nat, (body l).length ≤ l.length
  | [] => Nat.le_refl _
  | c :: r => by
    show (if c = 45 then r else c :: r).length ≤ _
    split
    · exact Nat.le_succ _
    · exact Nat.le_refl _
theorem body_mem {c : Nat} : ∀ {l : List Nat}, c ∈ body l → c ∈ l
  | [], h => h
  | a :: r, h => by
    have h' : c ∈ (if a = 45 then r else a :: r) := h
    by_cases e : a = 45
    · rw [if_pos e] at h'
      exact List.mem_cons_of_mem _ h'
    · rw [if_neg e] at h'
      exact h'
end K2

namespace Gd
open PySem PySem.Spec PyProof.Rows L2
/-! ### exceptions held as values -/
/-- one of the class C, its dict at d, stands at e -/
def ExV (C d e : Addr) : HO := .ext fun h => ∃ (oe : Obj) (vs : Array Value), h.get? e = some oe ∧ oe.cls = .ref C ∧ oe.dict = some d ∧ oe.data = .fields vs
theorem exV_ok {P : Program} {w : World} {H : Hp} {h : Heap} {C d e : Addr} {oe : Obj} {vs : Array Value} (h1 : h.get? e = some oe) (h2 : oe.cls = .ref C) (h3 : oe.dict = some d) (h4 : oe.data = .fields vs) : ObjOk P w H h e (ExV C d e) :=
  ⟨⟨oe, vs, h1, h2, h3, h4⟩, ⟨oe, h1⟩, fun _ _ ⟨o, v, a, b, c, e'⟩ k => ⟨o, v, k _ a, b, c, e'⟩⟩
def IsEx (C : Addr) (H : Hp) (v : V) : Prop := ∃ e d fs, v = .ref e ∧ H e = some (ExV C d e) ∧ H d = some (.xd fs)
theorem IsEx.same {C : Addr} {H H' : Hp} {v : V} (s : Same H H') : IsEx C H v → IsEx C H' v
  | ⟨e, d, fs, a, b, c⟩ => ⟨e, d, fs, a, s _ _ b, s _ _ c⟩
theorem IsEx.kind {C : Addr} {H : Hp} {v : V} : IsEx C H v → kind H v = .odd
  | ⟨e, d, fs, a, b, c⟩ => by
    subst a
    show kindO (H e) = .odd
    rw [b]
    rfl
/-- what isinstance asks of the class -/
structure ExcT (K : PySem.W.Frag) (C : Addr) : Prop where
  hcl : (PySem.W.clsIn K C).isSome = true
  hga : PySem.W.findIn K (.ref C) "__getattribute__" = some (some (.builtin "BaseException.__getattribute__"))
  hgt : PySem.W.findIn K (.ref C) "__getattr__" = some none
  hsub : PySem.W.subIn K (.ref C) (.type "BaseException") = some true
  ha : PySem.W.findIn K (.ref C) "__class__" = some (some (.builtin "object.__class__"))
  hn : PySem.W.specialIn K (.builtin "object.__class__") "__get__" = some (some (.builtin "getset_descriptor.__get__"))
  htk : PySem.W.takesIn K (.builtin "object.__class__") = some true
  hm : PySem.W.mroIn K C (.type "object") = some true
  noI : PySem.W.kitOne K (.ref C) (.type "int") = some false
  noS : PySem.W.kitOne K (.ref C) (.type "str") = some false
section
variable {X : Cx} {C : Addr}
theorem call_iskE (T : ExcT X.K C) : CallR X (.builtin "isinstance") (fun xs H Q => ∃ x n, xs = [x, .ty n] ∧ (n = "int" ∨ n = "str" ∨ (n = "bool" ∧ Pv H x)) ∧ (Pv H x ∨ IsEx C H x) ∧ Q (.bl (inst n (kind H x))) H) := by
  intro pins s σ H xs us Q I r h
  obtain ⟨x, n, rfl, hn, hv, q⟩ := h
  rcases hv with hv | hv
  · refine call_isk pins s σ H _ us Q I r ⟨x, n, rfl, ?_, hv, q⟩
    rcases hn with h | h | h
    · exact .inl h
    · exact .inr (.inl h)
    · exact .inr (.inr (.inl h.1))
  · rcases hn with h | h | h
    rotate_left 2
    · exact absurd hv.kind h.2
    all_goals
      rw [hv.kind] at q
      obtain ⟨e, d, fs, rfl, he, hd⟩ := hv
      obtain ⟨u1, u2, rfl, r1, r2⟩ := vals2 r
      cases (show u1 = Value.ref e from r1)
      cases (show u2 = Value.type n from r2)
      obtain ⟨⟨oe, vs, h1, h2, h3, h4⟩, _⟩ := (show ObjOk X.prog X.w H s.heap e (ExV C d e) from I.hok e _ he)
      obtain ⟨mA, hns, _⟩ := (show ObjOk X.prog X.w H s.heap d (.xd fs) from I.hok d _ hd)
      obtain ⟨od, ho, hl⟩ := lookIn_ns hns
      have J : PySem.W.InstAt s.heap e oe C (some od) := ⟨h1, h2, by unfold PySem.W.notCls; rw [h4] <;> rfl, by rw [h3]; exact ho⟩
      subst h
    · exact PySem.W.kia_one (PySem.W.kitx_exc T.hcl T.hga T.hgt T.hsub T.ha T.hn T.htk T.hm) I.kIn J T.noI (fun z => nomatch z) fun tk => ⟨.bl false, H, I.tok tk, rfl, q⟩
    · exact PySem.W.kia_one (PySem.W.kitx_exc T.hcl T.hga T.hgt T.hsub T.ha T.hn T.htk T.hm) I.kIn J T.noS (fun z => nomatch z) fun tk => ⟨.bl false, H, I.tok tk, rfl, q⟩
/-- C(e), a value -/
theorem pe_mkE {nm : Str} {qn : String} {fI : Addr} {a : Expr} {ta : TA} {p pos : Pos} {k : Nat} (T : PySem.EzValue.LowTxt X.K X.mg nm qn C fI) (hr : Room k X.A) (ha : PA X [a] ta) (hg : Gl X nm := by rfl) (hdb : (nm == ("__debug__" : Str)) = false := by decide)
    (he : starEach (a :: []) X.env = (false, eval a X.env) :: starEach [] X.env := by rfl) (hpl : (backTo pos (starEach [] X.env)).any (·.1) = false := by rfl) :
    PE X (.Call (.Name nm p) [a] [] pos) (fun σ H Q => ta σ H fun vs H1 => ∃ v, vs = [v] ∧ ∀ d e, H1 d = none → H1 e = none → d ≠ e → Q (.ref e) (upd (upd H1 d (.xd [(("value" : Str), v)])) e (ExV C d e))) := by
  refine ⟨fun pins s σ H Q I h => ?_⟩
  refine wpAny_Call_Name_kw (ld_glob I hg T.gC ?_ hdb)
  refine PySem.W.callWith_K (h₀ := X.base) I.ok.mod.kin T.kC (thn (ha.run pos pins s σ H _ I h) fun us s1 hh => ?_) he hpl
  obtain ⟨vs, H1, I1, r1, v, ev, q1⟩ := hh
  subst ev
  refine ⟨I1.kIn, ?_⟩
  cases r1 with
  | cons rv rn =>
    rename_i v' us'
    cases rn
    show wpAny _ _ (call (.ref C) [v']) _ _ _
    have hlim := I1.nolimit
    obtain ⟨hp, g, dr, tk, os⟩ := s1
    refine wpAny_call (PySem.EzValue.low_made T I1.kIn hlim (by have := hr.dp; omega) fun h' tk' e d M => ?_)
    obtain ⟨oe, fv, hoe, hc, hd, hdat, h1⟩ := M.obj
    have hns := M.ns
    obtain ⟨G', g1, g2⟩ := restrict h' fun b => decide (b ≠ e)
    have gk : ∀ b, b ≠ e → G'.get? b = h'.get? b := fun b hb => g1 b (decide_eq_true hb)
    have ge : G'.get? e = none := g2 e (by simp)
    have old : ∀ b o, hp.get? b = some o → G'.get? b = some o := fun b o q => (gk b (Nat.ne_of_lt (Nat.lt_of_lt_of_le (Heap.lt_size q) M.new))).trans (M.keep b o q)
    have ob : ObjOk X.prog X.w (upd H1 d (.xd [(("value" : Str), v)])) G' d (.xd [(("value" : Str), v)]) :=
      ⟨_, hns.at (fun o q => (gk d M.dne).trans q), fun f => relO_value rv f⟩
    have J : Inv X pins σ (upd H1 d (.xd [(("value" : Str), v)])) ⟨G', g, dr, tk', os⟩ := I1.laid (t' := tk') old M.dbig ob
    have fe : H1 e = none := I1.hok.fresh M.new
    have fe' : upd H1 d (.xd [(("value" : Str), v)]) e = none := by
      rw [upd_ne (Ne.symm M.dne)]
      exact fe
    have kp : ∀ b o, G'.get? b = some o → h'.get? b = some o := fun b o q => by
      by_cases hb : b = e
      · rw [hb, ge] at q; cases q
      · exact (gk b hb).symm.trans q
    exact ⟨.ref e, _, J.laidN (h' := h') (t' := tk') kp ge fe' (exV_ok hoe hc hd hdat), rfl, q1 d e (I1.hok.fresh M.dbig) fe M.dne⟩
end
end Gd

/-! zip of any number of lists and tuples of one length -/
namespace Zn
open PySem
open PySem.Sem (wp)
/-- an iterator of a list (true) or of a tuple (false) -/
def ItK (b : Bool) (h : Heap) (i l : Addr) (k : Nat) : Prop := if b then h.IsListIter i l k else h.IsTupleIter i l k
/-- a list or a tuple -/
def SqK (b : Bool) (h : Heap) (l : Addr) (xs : Array Value) : Prop := if b then h.IsList l xs else h.IsTuple l xs
theorem ItK.at {b : Bool} {h h' : Heap} {i l : Addr} {k : Nat} (x : ItK b h i l k) (e : ∀ o, h.get? i = some o → h'.get? i = some o) : ItK b h' i l k := by
  cases b
  · exact Heap.IsTupleIter.at x e
  · exact Heap.IsListIter.at x e
theorem SqK.at {b : Bool} {h h' : Heap} {l : Addr} {xs : Array Value} (x : SqK b h l xs) (e : ∀ o, h.get? l = some o → h'.get? l = some o) : SqK b h' l xs := by
  cases b
  · obtain ⟨o, ho, r⟩ := (x : h.IsTuple l xs)
    exact (⟨o, e _ ho, r⟩ : h'.IsTuple l xs)
  · exact Heap.IsList.at x e
theorem ItK.obj {b : Bool} {h : Heap} {i l : Addr} {k : Nat} (x : ItK b h i l k) : ∃ o, h.get? i = some o ∧ (o.cls = .type "list_iterator" ∨ o.cls = .type "tuple_iterator") ∧ ∀ v, o.data ≠ .cell v := by
  cases b
  · obtain ⟨o, ho, hc, hd⟩ := (x : h.IsTupleIter i l k)
    exact ⟨o, ho, .inr hc, fun v q => by rw [hd] at q; cases q⟩
  · obtain ⟨o, ho, hc, hd⟩ := (x : h.IsListIter i l k)
    exact ⟨o, ho, .inl hc, fun v q => by rw [hd] at q; cases q⟩
theorem SqK.obj {b : Bool} {h : Heap} {l : Addr} {xs : Array Value} (x : SqK b h l xs) : ∃ o, h.get? l = some o ∧ (o.cls = .type "list" ∨ o.cls = .type "tuple") := by
  cases b
  · obtain ⟨o, ho, hc, _⟩ := (x : h.IsTuple l xs)
    exact ⟨o, ho, .inr hc⟩
  · obtain ⟨o, ho, hc, _⟩ := (x : h.IsList l xs)
    exact ⟨o, ho, .inl hc⟩
section
variable {prog : Program} {w : World} {A : Around} {E : Value → Shared → Prop} {s : Shared}
theorem next_item {b : Bool} {it l : Addr} {k : Nat} {xs : Array Value} {x : Value} {Q : Value → Shared → Prop} (hit : ItK b s.heap it l k) (hl : SqK b s.heap l xs) (hx : xs[k]? = some x)
    (hQ : ∀ h', ItK b h' it l (k + 1) → Heap.SameBut it s.heap h' → Q x { s with heap := h' }) : wpAny (model prog w) A (Builtin.SmallTypes.nextOf (.ref it)) Q E s := by
  cases b
  · exact RZ.nextOf_tuple_item hit hl hx hQ
  · exact wpAny_nextOf_list_item hit hl hx hQ
theorem next_end {b : Bool} {it l : Addr} {k : Nat} {xs : Array Value} {Q : Value → Shared → Prop} (hh : A.handled = none) (hit : ItK b s.heap it l k) (hl : SqK b s.heap l xs) (hx : xs[k]? = none)
    (hE : ∀ h' e, Heap.ExtBut it s.heap h' → (∃ o, h'.get? e = some o ∧ o.cls = .type "StopIteration") → E (.ref e) { s with heap := h' }) : wpAny (model prog w) A (Builtin.SmallTypes.nextOf (.ref it)) Q E s := by
  cases b
  · exact RZ.nextOf_tuple_end hh hit hl hx hE
  · exact wpAny_nextOf_list_end hh hit hl hx hE
theorem iter_seq {b : Bool} {l : Addr} {xs : Array Value} {Q : Value → Shared → Prop} (hl : SqK b s.heap l xs)
    (hQ : ∀ h', h'.objs.size = s.heap.objs.size + 1 → (∀ c o, s.heap.get? c = some o → h'.get? c = some o) → ItK b h' s.heap.objs.size l 0 → Q (.ref s.heap.objs.size) { s with heap := h' }) : wpAny (model prog w) A (pyIter (.ref l)) Q E s := by
  cases b
  · exact wpAny_pyIter_tuple hl (hQ _ (Heap.size_push ..) (fun c o e => Heap.get?_push_of_some _ e) (show Heap.IsTupleIter _ _ _ _ from ⟨_, Heap.get?_push_size _ rfl, rfl, rfl⟩))
  · exact wpAny_pyIter_list hl (hQ _ (Heap.size_push ..) (fun c o e => Heap.get?_push_of_some _ e) (show Heap.IsListIter _ _ _ _ from ⟨_, Heap.get?_push_size _ rfl, rfl, rfl⟩))
/-- a loop whose every turn goes on -/
theorem forIn_steps {M : Model} {α β : Type} {f : α → β → Sem (ForInStep β)} {Q : β → Shared → Prop} : ∀ (l : List α) (b : Nat → β) (J : Nat → Shared → Prop) (i : Nat) (s : Shared),
    (∀ j a s, l[j]? = some a → J (i + j) s → wpAny M A (f a (b (i + j))) (fun r s' => r = .yield (b (i + j + 1)) ∧ J (i + j + 1) s') E s) → J i s → (∀ s, J (i + l.length) s → Q (b (i + l.length)) s) → wpAny M A (forIn l (b i) f) Q E s
  | [], b, J, i, s, _, h0, hQ => by
    rw [List.forIn_nil]
    exact wpAny_pure (hQ s h0)
  | a :: l, b, J, i, s, hs, h0, hQ => by
    rw [List.forIn_cons]
    refine wpAny_bind (wpAny_mono (hs 0 a s rfl h0) (fun r s' hr => ?_) fun _ _ e => e)
    obtain ⟨rfl, hJ⟩ := hr
    refine forIn_steps l b J (i + 1) s' (fun j a' s2 hj hJ2 => ?_) hJ fun s2 hJ2 => ?_
    · have e : i + 1 + j = i + (j + 1) := by omega
      rw [e] at hJ2 ⊢
      exact hs (j + 1) a' s2 hj hJ2
    · have e : i + 1 + l.length = i + (a :: l).length := by simp only [List.length_cons]; omega
      rw [e] at hJ2 ⊢
      exact hQ s2 hJ2
end
abbrev IsZipN (h : Heap) (z TI TO : Addr) (f0 f1 : Value) : Prop :=
  h.get? z = some { cls := .type "zip", dict := none, data := .fields #[f0, f1, .bool false, .ref TI, .ref TO], slots := #[] }
abbrev IsTupN (h : Heap) (T : Addr) (vs : List Value) : Prop := h.get? T = some { cls := .type "tuple", data := .seq vs.toArray }
/-- the iterators: kind, place, what is walked -/
abbrev Src := Bool × Addr × Addr
structure Apart (z TI TO : Addr) (ss : List Src) : Prop where
  TIz : TI ≠ z
  TOz : TO ≠ z
  TITO : TI ≠ TO
  iz : ∀ q ∈ ss, q.2.1 ≠ z ∧ q.2.1 ≠ TI ∧ q.2.1 ≠ TO
  lz : ∀ q ∈ ss, q.2.2 ≠ z ∧ q.2.2 ≠ TI ∧ q.2.2 ≠ TO
  il : ∀ q ∈ ss, ∀ r ∈ ss, q.2.1 ≠ r.2.2
  nd : (ss.map (·.2.1)).Nodup
end Zn

namespace Zn
open PySem
open PySem.Sem (wp)
/-- all iterators stand at k over their items -/
def At (h : Heap) (k : Nat) (ss : List Src) (xss : List (Array Value)) : Prop := ∀ (j : Nat) (q : Src) (xs : Array Value), ss[j]? = some q → xss[j]? = some xs → ItK q.1 h q.2.1 q.2.2 k ∧ SqK q.1 h q.2.2 xs
/-- the first j of them stand one further -/
def Mid (h : Heap) (k j : Nat) (ss : List Src) (xss : List (Array Value)) : Prop := ∀ (i : Nat) (q : Src) (xs : Array Value), ss[i]? = some q → xss[i]? = some xs → ItK q.1 h q.2.1 q.2.2 (if i < j then k + 1 else k) ∧ SqK q.1 h q.2.2 xs
theorem At.mid {h : Heap} {k : Nat} {ss : List Src} {xss : List (Array Value)} (a : At h k ss xss) : Mid h k 0 ss xss := fun i q xs h1 h2 => a i q xs h1 h2
theorem Mid.done {h : Heap} {k n : Nat} {ss : List Src} {xss : List (Array Value)} (m : Mid h k n ss xss) (hn : n = ss.length) : At h (k + 1) ss xss := fun i q xs h1 h2 => by
  have := m i q xs h1 h2
  rw [if_pos (by rw [hn]; exact (List.getElem?_eq_some_iff.mp h1).1)] at this
  exact this
/-- all but z, TO and the iterators as they were -/
def Rest (z TO : Addr) (ss : List Src) (h h' : Heap) : Prop := ∀ c o, c ≠ z → c ≠ TO → (∀ q ∈ ss, c ≠ q.2.1) → h.get? c = some o → h'.get? c = some o
theorem Mid.ext {z TI TO : Addr} {h h' : Heap} {k j : Nat} {ss : List Src} {xss : List (Array Value)} (D : Apart z TI TO ss) (m : Mid h k j ss xss) (e : ∀ c o, c ≠ z → c ≠ TO → h.get? c = some o → h'.get? c = some o) : Mid h' k j ss xss := fun i q xs h1 h2 => by
  obtain ⟨a, b⟩ := m i q xs h1 h2
  have hq := List.mem_of_getElem? h1
  exact ⟨a.at fun o => e _ o (D.iz q hq).1 (D.iz q hq).2.2, b.at fun o => e _ o (D.lz q hq).1 (D.lz q hq).2.2⟩
theorem Mid.step {z TI TO : Addr} {h h' : Heap} {k j : Nat} {ss : List Src} {xss : List (Array Value)} {q : Src} (D : Apart z TI TO ss) (m : Mid h k j ss xss) (hq : ss[j]? = some q) (hi : ItK q.1 h' q.2.1 q.2.2 (k + 1)) (e : ∀ c o, c ≠ q.2.1 → h.get? c = some o → h'.get? c = some o) : Mid h' k (j + 1) ss xss := fun i r xs h1 h2 => by
  obtain ⟨a, b⟩ := m i r xs h1 h2
  have mr := List.mem_of_getElem? h1
  have mq := List.mem_of_getElem? hq
  refine ⟨?_, b.at fun o => e _ o (fun x => D.il q mq r mr x.symm)⟩
  by_cases ij : i = j
  · subst ij
    rw [hq] at h1
    cases h1
    rw [if_pos (Nat.lt_succ_self _)]
    exact hi
  · have ne : r.2.1 ≠ q.2.1 := fun x => ij (by
      obtain ⟨l1, e1⟩ := List.getElem?_eq_some_iff.mp h1
      obtain ⟨l2, e2⟩ := List.getElem?_eq_some_iff.mp hq
      have nd := List.pairwise_iff_getElem.mp D.nd
      rcases Nat.lt_trichotomy i j with lt | rfl | gt
      · exact absurd (by rw [List.getElem_map, List.getElem_map, e1, e2]; exact x) (nd i j (by rw [List.length_map]; exact l1) (by rw [List.length_map]; exact l2) lt)
      · rfl
      · exact absurd (by rw [List.getElem_map, List.getElem_map, e1, e2]; exact x.symm) (nd j i (by rw [List.length_map]; exact l2) (by rw [List.length_map]; exact l1) gt))
    have : (if i < j + 1 then k + 1 else k) = (if i < j then k + 1 else k) := by
      by_cases c : i < j
      · rw [if_pos c, if_pos (by omega)]
      · rw [if_neg c, if_neg (by omega)]
    rw [this]
    exact a.at fun o => e _ o ne
/-- what has been given out ahead -/
def Own (f0 : Value) : Prop := f0 = .none ∨ ∃ a, f0 = rawInt a
section
variable {prog : Program} {w : World} {A : Around} {E : Value → Shared → Prop} {s : Shared}
theorem alive {M : Model} {a : Addr} {Q : Option Obj → Shared → Prop} (h : Q (s.heap.get? a) s) : wpAny M A (loadIfAlive a) Q E s := fun _ _ _ => h
theorem set_mix {vs os : List Value} {j : Nat} {x : Value} (hl : os.length = vs.length) (hj : vs[j]? = some x) : (vs.take j ++ os.drop j).toArray.setIfInBounds j x = (vs.take (j + 1) ++ os.drop (j + 1)).toArray := by
  have hjl : j < vs.length := (List.getElem?_eq_some_iff.mp hj).1
  rw [List.setIfInBounds_toArray]
  congr 1
  have ho : os.drop j = os[j] :: os.drop (j + 1) := List.drop_eq_getElem_cons (by omega)
  have hlen : (vs.take j).length = j := by rw [List.length_take]; omega
  rw [ho, List.set_append_right _ _ (by omega), hlen, Nat.sub_self, List.set_cons_zero, List.take_add_one, hj]
  simp
theorem owned_free {z TI TO : Addr} {f0 f1 : Value} {Q : Bool → Shared → Prop} (hf : Own f0) (hz : IsZipN s.heap z TI TO f0 f1)
    (hQ : ∀ b h' f1', IsZipN h' z TI TO f0 f1' → Heap.SameBut z s.heap h' → Q b { s with heap := h' }) : wpAny (model prog w) A (Builtin.SmallTypes.ownedTupleIsFree (.ref z)) Q E s := by
  unfold Builtin.SmallTypes.ownedTupleIsFree
  refine wpAny_bind (wpAny_field hz rfl (x := f0) rfl ?_)
  rcases hf with rfl | ⟨a, rfl⟩
  · exact wpAny_pure (hQ true s.heap f1 hz (Heap.SameBut.refl ..))
  · show wpAny _ _ (loadIfAlive a.toNat >>= _) _ _ _
    refine wpAny_bind (alive ?_)
    cases s.heap.get? a.toNat with
    | none => exact wpAny_pure (hQ true s.heap f1 hz (Heap.SameBut.refl ..))
    | some o =>
      show wpAny _ _ (field (Value.ref z) 1 >>= _) _ _ _
      refine wpAny_bind (wpAny_field hz rfl (x := f1) rfl ?_)
      by_cases c : (f1 != Value.bool true) = true
      · rw [if_pos c]
        refine wpAny_bind (wpAny_setField_rec hz (by simp) fun h₁ hz₁ hs₁ => ?_)
        exact wpAny_pure (hQ false h₁ (.bool true) hz₁ hs₁)
      · rw [if_neg c]
        exact wpAny_pure (hQ false s.heap f1 hz (Heap.SameBut.refl ..))
end
end Zn

namespace Zn
open PySem
open PySem.Sem (wp)
section
variable {prog : Program} {w : World} {A : Around} {E : Value → Shared → Prop} {s : Shared}
/-- what stands after a turn -/
def After (z TI TO : Addr) (k : Nat) (ss : List Src) (xss : List (Array Value)) (vs : List Value) (h h' : Heap) : Prop :=
  (∃ f0 f1, Own f0 ∧ IsZipN h' z TI TO f0 f1) ∧ (∃ os, os.length = ss.length ∧ IsTupN h' TO os) ∧ At h' (k + 1) ss xss ∧ IsTupN h' h.objs.size vs ∧ h'.objs.size = h.objs.size + 1 ∧ Rest z TO ss h h'
theorem zip_item {z TI TO : Addr} {f0 f1 : Value} {ss : List Src} {xss : List (Array Value)} {k : Nat} {vs os : List Value} {Q : Value → Shared → Prop} (D : Apart z TI TO ss) (hne : ss ≠ []) (hl : xss.length = ss.length) (hv : vs.length = ss.length) (hsz : ss.length ≤ sizeLine)
    (hf : Own f0) (hz : IsZipN s.heap z TI TO f0 f1) (hTI : IsTupN s.heap TI (ss.map fun q => .ref q.2.1)) (hTO : IsTupN s.heap TO os) (ho : os.length = ss.length)
    (ha : At s.heap k ss xss) (hx : ∀ (j : Nat) (xs : Array Value), xss[j]? = some xs → xs[k]? = vs[j]?)
    (hQ : ∀ h', After z TI TO k ss xss vs s.heap h' → Q (.ref s.heap.objs.size) { s with heap := h' }) :
    wpAny (model prog w) A (Builtin.«zip.__next__» ⟨[.ref z], []⟩) (fun fin s' => ∃ v, fin = .done (.ret v) ∧ Q v s') E s := by
  show wpAny _ _ (field (.ref z) 2 >>= _) _ _ _
  refine wpAny_bind (wpAny_field hz rfl (x := .bool false) rfl ?_)
  show wpAny _ _ (field (.ref z) 3 >>= _) _ _ _
  refine wpAny_bind (wpAny_field hz rfl (x := .ref TI) rfl ?_)
  refine wpAny_bind (wpAny_seqItems hTI rfl ?_)
  have he : (ss.map fun q => Value.ref q.2.1).toArray.isEmpty = false := by
    cases ss with
    | nil => exact absurd rfl hne
    | cons a l => rfl
  simp only [he, Bool.false_eq_true, if_false]
  show wpAny _ _ (Builtin.SmallTypes.ownedTupleIsFree (.ref z) >>= _) _ _ _
  refine wpAny_bind (owned_free hf hz fun b h₀ f1' hz₀ hs₀ => ?_)
  have ha₀ : Mid h₀ k 0 ss xss := ha.mid.ext D fun c o c1 _ e => (hs₀.2 c c1).trans e
  have hTO₀ : IsTupN h₀ TO os := (hs₀.2 _ D.TOz).trans hTO
  have hTI₀ : IsTupN h₀ TI _ := (hs₀.2 _ D.TIz).trans hTI
  have at_ : ∀ {j q}, ss[j]? = some q → ∃ xs, xss[j]? = some xs ∧ ∃ x, vs[j]? = some x ∧ xs[k]? = some x := fun {j q} e => by
    have lj := (List.getElem?_eq_some_iff.mp e).1
    have e1 : xss[j]? = some xss[j] := List.getElem?_eq_getElem (by omega)
    have e2 : vs[j]? = some vs[j] := List.getElem?_eq_getElem (by omega)
    exact ⟨_, e1, _, e2, (hx j _ e1).trans e2⟩
  cases b with
  | true =>
    simp only [if_true]
    refine wpAny_bind (wpAny_rule ?_)
    refine wpAny_bind (wpAny_field hz₀ rfl (x := .ref TO) rfl ?_)
    refine wpAny_bind (wpAny_setField_rec hz₀ (by simp) fun h₁ hz₁ hs₁ => ?_)
    replace hz₁ : IsZipN h₁ z TI TO .ellipsis f1' := hz₁
    refine wpAny_bind ?_
    refine forIn_steps (List.map (fun q => Value.ref q.snd.fst) ss).zipIdx (fun _ => ((none : Option Fin), ())) (fun j s' => ∃ h, s' = { s with heap := h } ∧ h.objs.size = s.heap.objs.size ∧ Mid h k j ss xss ∧ IsZipN h z TI TO .ellipsis f1' ∧ IsTupN h TO (vs.take j ++ os.drop j) ∧ Rest z TO ss s.heap h) 0 _ ?_ ?_ ?_
    · rintro j ⟨a, ja⟩ s2 haj ⟨h, rfl, hsz2, hm, hzz, hto, hr⟩
      rw [Nat.zero_add] at hm hto ⊢
      obtain ⟨q, hq, ea, eja⟩ : ∃ q, ss[j]? = some q ∧ a = .ref q.2.1 ∧ ja = j := by
        rw [List.getElem?_zipIdx] at haj
        simp only [List.getElem?_map, Option.map_map, Option.map_eq_some_iff] at haj
        obtain ⟨q, hq, e⟩ := haj
        have e' := Prod.mk.inj e
        exact ⟨q, hq, e'.1.symm, by have := e'.2; omega⟩
      subst ea eja
      obtain ⟨xs, hxs, x, hvx, hxk⟩ := at_ hq
      have mq := List.mem_of_getElem? hq
      obtain ⟨i1, i2⟩ := hm ja q xs hq hxs
      rw [if_neg (Nat.lt_irrefl _)] at i1
      refine wpAny_bind (wpAny_onRaise ?_)
      show wpAny _ _ (Builtin.SmallTypes.nextOf (.ref q.2.1) >>= _) _ _ _
      refine wpAny_bind (next_item i1 i2 hxk fun h₂ i3 hs₂ => wpAny_pure ?_)
      have hto₂ : IsTupN h₂ TO _ := (hs₂.2 _ (D.iz q mq).2.2.symm).trans hto
      refine wpAny_bind (wpAny_seqItems hto₂ rfl ?_)
      have sz : (vs.take ja ++ os.drop ja).toArray.size ≤ sizeLine := by
        simp only [List.size_toArray, List.length_append, List.length_take, List.length_drop]
        omega
      refine wpAny_bind (wpAny_updateSeq hto₂ rfl ?_ sz (by rw [Array.size_setIfInBounds]; omega))
      have hs₃ := Heap.SameBut.update h₂ TO (Obj.mapSeq (·.setIfInBounds ja x))
      have hto₃ : IsTupN (h₂.update TO (Obj.mapSeq (·.setIfInBounds ja x))) TO (vs.take (ja + 1) ++ os.drop (ja + 1)) := by
        have := Heap.get?_update_self (Obj.mapSeq (·.setIfInBounds ja x)) hto₂ rfl
        refine this.trans ?_
        rw [← set_mix (by omega) hvx]
        simp [Obj.mapSeq]
      refine wpAny_bind (wpAny_letGo (wpAny_pure ⟨rfl, _, rfl, hs₃.1.trans (hs₂.1.trans hsz2), ?_, ?_, hto₃, ?_⟩))
      · exact (hm.step D hq i3 fun c o cn e => (hs₂.2 c cn).trans e).ext D fun c o _ c2 e => (hs₃.2 c c2).trans e
      · exact (hs₃.2 _ D.TOz.symm).trans ((hs₂.2 _ (D.iz q mq).1.symm).trans hzz)
      · exact fun c o c1 c2 c3 e => (hs₃.2 c c2).trans ((hs₂.2 c (c3 q mq)).trans (hr c o c1 c2 c3 e))
    · exact ⟨h₁, rfl, hs₁.1.trans hs₀.1, ha₀.ext D fun c o c1 _ e => (hs₁.2 c c1).trans e, hz₁, by rw [List.take_zero, List.nil_append, List.drop_zero]; exact (hs₁.2 _ D.TOz).trans hTO₀,
        fun c o c1 _ _ e => (hs₁.2 c c1).trans ((hs₀.2 c c1).trans e)⟩
    · rintro s2 ⟨h, rfl, hsz2, hm, hzz, hto, hr⟩
      have hlen : (List.map (fun q => Value.ref q.snd.fst) ss).zipIdx.length = ss.length := by rw [List.length_zipIdx, List.length_map]
      rw [Nat.zero_add, hlen] at hm hto
      have hto : IsTupN h TO vs := by
        have e : vs.take ss.length ++ os.drop ss.length = vs := by rw [List.take_of_length_le (by omega), List.drop_of_length_le (by omega), List.append_nil]
        rw [e] at hto
        exact hto
      show wpAny _ _ (seqItems? (.ref TO) >>= _) _ _ _
      refine wpAny_bind (wpAny_seqItems hto rfl ?_)
      refine wpAny_bind (wpAny_newTuple ?_ (by simp only [List.toList_toArray]; omega))
      have hzlt : z < h.objs.size := Heap.lt_size hzz
      have hz₆ : IsZipN (h.push { cls := .type "tuple", data := .seq vs.toArray }) z TI TO .ellipsis f1' := Heap.get?_push_of_some _ hzz
      show wpAny _ _ (Builtin.SmallTypes.ownedTupleHandOut (.ref z) (.ref h.objs.size) >>= _) _ _ _
      refine wpAny_bind ?_
      unfold Builtin.SmallTypes.ownedTupleHandOut
      refine wpAny_bind (wpAny_setField_rec hz₆ (by simp) fun h₇ hz₇ hs₇ => ?_)
      replace hz₇ : IsZipN h₇ z TI TO (rawInt h.objs.size) f1' := hz₇
      refine wpAny_setField_rec hz₇ (by simp) fun h₈ hz₈ hs₈ => ?_
      replace hz₈ : IsZipN h₈ z TI TO (rawInt h.objs.size) (.bool false) := hz₈
      have up : ∀ c o, c ≠ z → h.get? c = some o → h₈.get? c = some o := fun c o c1 e => (hs₈.2 c c1).trans ((hs₇.2 c c1).trans (Heap.get?_push_of_some _ e))
      have hT₈ : IsTupN h₈ h.objs.size vs := (hs₈.2 _ (Nat.ne_of_gt hzlt)).trans ((hs₇.2 _ (Nat.ne_of_gt hzlt)).trans (Heap.get?_push_size _ rfl))
      refine wpAny_pure ⟨_, rfl, ?_⟩
      show Q (.ref h.objs.size) _
      rw [hsz2] at hT₈ ⊢
      refine hQ h₈ ⟨⟨_, _, .inr ⟨_, rfl⟩, hz₈⟩, ⟨vs, hv, up _ _ D.TOz hto⟩, (hm.ext D fun c o c1 _ e => up c o c1 e).done rfl, hT₈, ?_, fun c o c1 c2 c3 e => up c o c1 (hr c o c1 c2 c3 e)⟩
      rw [hs₈.1, hs₇.1, Heap.size_push, hsz2]
  | false =>
    simp only [Bool.false_eq_true, if_false]
    refine wpAny_bind ?_
    rw [← Array.forIn_toList]
    refine forIn_steps (List.map (fun q => Value.ref q.snd.fst) ss) (fun j => ((none : Option Fin), (vs.take j).toArray)) (fun j s' => ∃ h, s' = { s with heap := h } ∧ h.objs.size = s.heap.objs.size ∧ Mid h k j ss xss ∧ IsZipN h z TI TO f0 f1' ∧ IsTupN h TO os ∧ Rest z TO ss s.heap h) 0 _ ?_ ?_ ?_
    · rintro j a s2 haj ⟨h, rfl, hsz2, hm, hzz, hto, hr⟩
      rw [Nat.zero_add] at hm ⊢
      obtain ⟨q, hq, ea⟩ : ∃ q, ss[j]? = some q ∧ a = .ref q.2.1 := by
        simp only [List.getElem?_map, Option.map_eq_some_iff] at haj
        obtain ⟨q, hq, e⟩ := haj
        exact ⟨q, hq, e.symm⟩
      subst ea
      obtain ⟨xs, hxs, x, hvx, hxk⟩ := at_ hq
      have mq := List.mem_of_getElem? hq
      obtain ⟨i1, i2⟩ := hm j q xs hq hxs
      rw [if_neg (Nat.lt_irrefl _)] at i1
      refine wpAny_bind (wpAny_holding ?_)
      show wpAny _ _ (Builtin.SmallTypes.nextOf (.ref q.2.1) >>= _) _ _ _
      refine wpAny_bind (next_item i1 i2 hxk fun h₂ i3 hs₂ => wpAny_pure ?_)
      refine wpAny_pure ⟨?_, h₂, rfl, hs₂.1.trans hsz2, hm.step D hq i3 fun c o cn e => (hs₂.2 c cn).trans e, (hs₂.2 _ (D.iz q mq).1.symm).trans hzz, (hs₂.2 _ (D.iz q mq).2.2.symm).trans hto, fun c o c1 c2 c3 e => (hs₂.2 c (c3 q mq)).trans (hr c o c1 c2 c3 e)⟩
      rw [List.take_add_one, hvx]
      simp
    · exact ⟨h₀, rfl, hs₀.1, ha₀, hz₀, hTO₀, fun c o c1 _ _ e => (hs₀.2 c c1).trans e⟩
    · rintro s2 ⟨h, rfl, hsz2, hm, hzz, hto, hr⟩
      rw [Nat.zero_add, List.length_map] at hm
      have e : (vs.take (0 + (List.map (fun q => Value.ref q.snd.fst) ss).length)) = vs := by rw [Nat.zero_add, List.length_map, List.take_of_length_le (by omega)]
      rw [e]
      refine wpAny_bind (wpAny_newTuple ?_ (by simp only [List.toList_toArray]; omega))
      have up : ∀ c o, h.get? c = some o → (h.push { cls := .type "tuple", data := .seq vs.toArray.toList.toArray }).get? c = some o := fun c o e => Heap.get?_push_of_some _ e
      refine wpAny_pure ⟨_, rfl, ?_⟩
      show Q (.ref h.objs.size) _
      rw [hsz2]
      refine hQ _ ⟨⟨_, _, hf, up _ _ hzz⟩, ⟨os, ho, up _ _ hto⟩, (hm.ext D fun c o _ _ e => up c o e).done rfl, ?_, ?_, fun c o c1 c2 c3 e => up c o (hr c o c1 c2 c3 e)⟩
      · rw [← hsz2]
        exact Heap.get?_push_size _ rfl
      · rw [Heap.size_push, hsz2]
end
end Zn

namespace Zn
open PySem
open PySem.Sem (wp)
section
variable {prog : Program} {w : World} {A : Around} {E : Value → Shared → Prop} {s : Shared}
/-- where the first source has come to its end, or there is none -/
def Out (h : Heap) (k : Nat) (ss : List Src) : Prop := ss = [] ∨ ∃ (q : Src) (xs : Array Value), ss[0]? = some q ∧ ItK q.1 h q.2.1 q.2.2 k ∧ SqK q.1 h q.2.2 xs ∧ xs[k]? = none
theorem stop_out {α : Type} {Q : α → Shared → Prop} (hh : A.handled = none) (hE : ∀ h' e, (∀ c o, s.heap.get? c = some o → h'.get? c = some o) → (∃ o, h'.get? e = some o ∧ o.cls = .type "StopIteration") → E (.ref e) { s with heap := h' }) :
    wpAny (model prog w) A (Builtin.SmallTypes.stopIteration : Sem α) Q E s := by
  show wpAny _ _ (newExc (.type "StopIteration") [] >>= _) _ _ _
  refine wpAny_bind ?_
  simp only [newExc, newTuple]
  refine wpAny_bind (wpAny_newObj_type ?_ (by size_fits))
  refine wpAny_bind (m := firstArgMember _ _) (wpAny_of_eq (a := Value.none) (by first | rfl | (simp only [firstArgMember]; rfl)) (wpAny_newObj_type ?_ (by size_fits)))
  simp only [raiseNew]
  refine wpAny_bind (wpAny_handled ?_)
  first | rw [show A.in1.handled = none from hh] | rw [hh]
  refine wpAny_bind (wpAny_pure (wpAny_throw ?_))
  exact hE _ _ (fun c o e => Heap.get?_push_of_some _ (Heap.get?_push_of_some _ e)) ⟨_, Heap.get?_push_size _ rfl, rfl⟩
theorem zip_end {z TI TO : Addr} {f0 f1 : Value} {ss : List Src} {k : Nat} {os : List Value} {Q : Fin → Shared → Prop} (hh : A.handled = none) (D : Apart z TI TO ss)
    (hf : Own f0) (hz : IsZipN s.heap z TI TO f0 f1) (hTI : IsTupN s.heap TI (ss.map fun q => .ref q.2.1)) (hTO : IsTupN s.heap TO os) (ho : os.length = ss.length)
    (hx : Out s.heap k ss)
    (hE : ∀ h' e, Rest z TO ss s.heap h' → (∃ o, h'.get? e = some o ∧ o.cls = .type "StopIteration") → E (.ref e) { s with heap := h' }) :
    wpAny (model prog w) A (Builtin.«zip.__next__» ⟨[.ref z], []⟩) Q E s := by
  show wpAny _ _ (field (.ref z) 2 >>= _) _ _ _
  refine wpAny_bind (wpAny_field hz rfl (x := .bool false) rfl ?_)
  show wpAny _ _ (field (.ref z) 3 >>= _) _ _ _
  refine wpAny_bind (wpAny_field hz rfl (x := .ref TI) rfl ?_)
  refine wpAny_bind (wpAny_seqItems hTI rfl ?_)
  match ss, D, hTI, ho, hx, hE with
  | [], D, hTI, ho, hx, hE =>
    show wpAny _ _ (rule _ >>= _) _ _ _
    refine wpAny_bind (wpAny_rule ?_)
    exact wpAny_bind (stop_out hh fun h' e k1 k2 => hE h' e (fun c o _ _ _ e => k1 c o e) k2)
  | q :: ss, D, hTI, ho, hx, hE =>
    obtain ⟨i0, s0⟩ : ∃ xs, ItK q.1 s.heap q.2.1 q.2.2 k ∧ SqK q.1 s.heap q.2.2 xs ∧ xs[k]? = none := by
      obtain ⟨q', xs, e, r⟩ := hx.resolve_left (fun e => nomatch e)
      cases e
      exact ⟨xs, r⟩
    obtain ⟨i0, s0, hxk⟩ := s0
    have he : (List.map (fun q => Value.ref q.2.1) (q :: ss)).toArray.isEmpty = false := rfl
    simp only [he, Bool.false_eq_true, if_false]
    show wpAny _ _ (Builtin.SmallTypes.ownedTupleIsFree (.ref z) >>= _) _ _ _
    refine wpAny_bind (owned_free hf hz fun b h₀ f1' hz₀ hs₀ => ?_)
    have mq : q ∈ q :: ss := List.mem_cons_self
    have i0 := i0.at fun o e => (hs₀.2 _ (D.iz q mq).1).trans e
    have s0 := s0.at fun o e => (hs₀.2 _ (D.lz q mq).1).trans e
    have e0 : (List.map (fun q => Value.ref q.2.1) (q :: ss)) = .ref q.2.1 :: List.map (fun q => Value.ref q.2.1) ss := rfl
    cases b with
    | true =>
      simp only [if_true]
      refine wpAny_bind (wpAny_rule ?_)
      refine wpAny_bind (wpAny_field hz₀ rfl (x := .ref TO) rfl ?_)
      refine wpAny_bind (wpAny_setField_rec hz₀ (by simp) fun h₁ hz₁ hs₁ => ?_)
      replace hz₁ : IsZipN h₁ z TI TO .ellipsis f1' := hz₁
      refine wpAny_bind ?_
      have i1 := i0.at fun o e => (hs₁.2 _ (D.iz q mq).1).trans e
      have i2 := s0.at fun o e => (hs₁.2 _ (D.lz q mq).1).trans e
      simp only [e0, List.zipIdx_cons, List.forIn_cons]
      refine wpAny_bind (wpAny_bind (wpAny_onRaise ?_))
      show wpAny _ _ (Builtin.SmallTypes.nextOf (.ref q.2.1) >>= _) _ _ _
      refine wpAny_bind (next_end hh i1 i2 hxk fun h₂ e hs₂ ⟨oe, hoe, hce⟩ => ?_)
      have hz₂ : IsZipN h₂ z TI TO .ellipsis f1' := hs₂ _ _ (D.iz q mq).1.symm hz₁
      have hez : e ≠ z := fun x => by
        rw [x, hz₂] at hoe
        cases hoe
        simp at hce
      refine wpAny_setField_rec hz₂ (by simp) fun h₃ _ hs₃ => hE h₃ e (fun c o c1 _ c3 x => (hs₃.2 c c1).trans (hs₂ _ _ (c3 q mq) ((hs₁.2 c c1).trans ((hs₀.2 c c1).trans x)))) ⟨oe, (hs₃.2 _ hez).trans hoe, hce⟩
    | false =>
      simp only [Bool.false_eq_true, if_false]
      refine wpAny_bind ?_
      rw [← Array.forIn_toList]
      simp only [e0, List.forIn_cons]
      refine wpAny_bind (wpAny_bind (wpAny_holding ?_))
      show wpAny _ _ (Builtin.SmallTypes.nextOf (.ref q.2.1) >>= _) _ _ _
      refine wpAny_bind (next_end hh i0 s0 hxk fun h₂ e hs₂ he => hE h₂ e (fun c o c1 _ c3 x => hs₂ _ _ (c3 q mq) ((hs₀.2 c c1).trans x)) he)
theorem next_zip {z TI TO : Addr} {f0 f1 : Value} {ss : List Src} {xss : List (Array Value)} {k : Nat} {vs os : List Value} {Q : Option Value → Shared → Prop} (D : Apart z TI TO ss) (hne : ss ≠ []) (hl : xss.length = ss.length) (hv : vs.length = ss.length) (hsz : ss.length ≤ sizeLine)
    (hf : Own f0) (hz : IsZipN s.heap z TI TO f0 f1) (hTI : IsTupN s.heap TI (ss.map fun q => .ref q.2.1)) (hTO : IsTupN s.heap TO os) (ho : os.length = ss.length)
    (ha : At s.heap k ss xss) (hx : ∀ (j : Nat) (xs : Array Value), xss[j]? = some xs → xs[k]? = vs[j]?)
    (hQ : ∀ h', After z TI TO k ss xss vs s.heap h' → Q (some (.ref s.heap.objs.size)) { s with heap := h' }) : wpAny (model prog w) A (pyNext (.ref z)) Q E s := by
  have hT : s.TypeIs (.ref z) "zip" := ⟨_, hz, rfl⟩
  unfold pyNext
  exact wpAny_bind (wpAny_attempt (wpAny_callSpecial?_slot (name := Str.ofString "__next__") hT F.slot_zip_next (wpAny_call_entry F.slot_zip_next hT F.entry_zip_next
    (zip_item D hne hl hv hsz hf hz hTI hTO ho ha hx fun h' a => wpAny_pure (hQ h' a)) (F.args_zip_next_1 _))))
theorem next_zip_end {z TI TO : Addr} {f0 f1 : Value} {ss : List Src} {k : Nat} {os : List Value} {Q : Option Value → Shared → Prop} (hh : A.handled = none) (D : Apart z TI TO ss)
    (hf : Own f0) (hz : IsZipN s.heap z TI TO f0 f1) (hTI : IsTupN s.heap TI (ss.map fun q => .ref q.2.1)) (hTO : IsTupN s.heap TO os) (ho : os.length = ss.length)
    (hx : Out s.heap k ss)
    (hQ : ∀ h', Rest z TO ss s.heap h' → Q none { s with heap := h' }) : wpAny (model prog w) A (pyNext (.ref z)) Q E s := by
  have hT : s.TypeIs (.ref z) "zip" := ⟨_, hz, rfl⟩
  unfold pyNext
  refine wpAny_bind (wpAny_attempt (wpAny_callSpecial?_slot (name := Str.ofString "__next__") hT F.slot_zip_next (wpAny_call_entry F.slot_zip_next hT F.entry_zip_next
    (zip_end hh D hf hz hTI hTO ho hx fun h' e hk he => ?_) (F.args_zip_next_1 _))))
  obtain ⟨o, ho, hc⟩ := he
  exact wpAny_bind (wpAny_isInstance (T := "StopIteration") (b := true) ⟨o, ho, hc⟩ isSubtype_stop (wpAny_pure (hQ _ hk)))
/-- the step ahead of the store, for any target -/
theorem go_zip {tg : Expr} {z TI TO T : Addr} {f0 f1 : Value} {Q : Unit → Shared → Prop} (hf : Own f0) (hz : IsZipN s.heap z TI TO f0 f1)
    (hQ : ∀ h' f0', Own f0' → IsZipN h' z TI TO f0' f1 → Heap.SameBut z s.heap h' → Q () { s with heap := h' }) : wpAny (model prog w) A (letOwnedTupleGo tg (.ref z) (.ref T)) Q E s := by
  have same := hQ s.heap f0 hf hz (Heap.SameBut.refl ..)
  have main : wpAny (model prog w) A (do
      let o ← load z
      match o.cls, o.data with
      | .type n, .fields vs =>
        if ["enumerate", "zip", "dict_itemiterator", "dict_reverseitemiterator", "odict_iterator", "itertools.zip_longest", "itertools.pairwise"].contains n && vs[0]? == some (rawInt T) then
          rule "for.unpacks-the-owned-tuple"
          updateField z 0 .none
      | _, _ => pure ()) Q E s := by
    refine wpAny_bind (wpAny_load hz ?_)
    by_cases c : (["enumerate", "zip", "dict_itemiterator", "dict_reverseitemiterator", "odict_iterator", "itertools.zip_longest", "itertools.pairwise"].contains "zip" && (#[f0, f1, .bool false, .ref TI, .ref TO] : Array Value)[0]? == some (rawInt T)) = true
    · show wpAny _ _ (if _ then _ else _) _ _ _
      rw [if_pos c]
      refine wpAny_bind (wpAny_rule ?_)
      show wpAny _ _ (setField (.ref z) 0 .none) Q E s
      exact wpAny_setField_rec hz (by simp) fun h' hz' hs' => hQ h' .none (.inl rfl) hz' hs'
    · show wpAny _ _ (if _ then _ else _) _ _ _
      rw [if_neg c]
      exact wpAny_pure same
  unfold letOwnedTupleGo
  cases tg <;> first
    | exact wpAny_pure same
    | exact main
end
end Zn

namespace Zn
open PySem PySem.F
theorem tc : ∀ us : List Value, us.length ≤ 12 → checkTypeCall "zip" ⟨us, []⟩ = pure ()
  | [], _ => by kernel_rfl
  | [a0], _ => by kernel_rfl
  | [a0, a1], _ => by kernel_rfl
  | [a0, a1, a2], _ => by kernel_rfl
  | [a0, a1, a2, a3], _ => by kernel_rfl
  | [a0, a1, a2, a3, a4], _ => by kernel_rfl
  | [a0, a1, a2, a3, a4, a5], _ => by kernel_rfl
  | [a0, a1, a2, a3, a4, a5, a6], _ => by kernel_rfl
  | [a0, a1, a2, a3, a4, a5, a6, a7], _ => by kernel_rfl
  | [a0, a1, a2, a3, a4, a5, a6, a7, a8], _ => by kernel_rfl
  | [a0, a1, a2, a3, a4, a5, a6, a7, a8, a9], _ => by kernel_rfl
  | [a0, a1, a2, a3, a4, a5, a6, a7, a8, a9, a10], _ => by kernel_rfl
  | [a0, a1, a2, a3, a4, a5, a6, a7, a8, a9, a10, a11], _ => by kernel_rfl
  | _ :: _ :: _ :: _ :: _ :: _ :: _ :: _ :: _ :: _ :: _ :: _ :: _ :: _, h => by simp only [List.length_cons] at h; omega
theorem nc : ∀ us : List Value, us.length ≤ 12 → checkBuiltinCall "zip.__new__" ⟨.type "zip" :: us, []⟩ = pure ()
  | [], _ => by kernel_rfl
  | [a0], _ => by kernel_rfl
  | [a0, a1], _ => by kernel_rfl
  | [a0, a1, a2], _ => by kernel_rfl
  | [a0, a1, a2, a3], _ => by kernel_rfl
  | [a0, a1, a2, a3, a4], _ => by kernel_rfl
  | [a0, a1, a2, a3, a4, a5], _ => by kernel_rfl
  | [a0, a1, a2, a3, a4, a5, a6], _ => by kernel_rfl
  | [a0, a1, a2, a3, a4, a5, a6, a7], _ => by kernel_rfl
  | [a0, a1, a2, a3, a4, a5, a6, a7, a8], _ => by kernel_rfl
  | [a0, a1, a2, a3, a4, a5, a6, a7, a8, a9], _ => by kernel_rfl
  | [a0, a1, a2, a3, a4, a5, a6, a7, a8, a9, a10], _ => by kernel_rfl
  | [a0, a1, a2, a3, a4, a5, a6, a7, a8, a9, a10, a11], _ => by kernel_rfl
  | _ :: _ :: _ :: _ :: _ :: _ :: _ :: _ :: _ :: _ :: _ :: _ :: _ :: _, h => by simp only [List.length_cons] at h; omega
theorem oi (o : Value) : ∀ us : List Value, us.length ≤ 12 → argsOk "object.__init__" ⟨o :: us, []⟩ := by
  unfold argsOk
  rw [signature?_of (id := "object.__init__") (n := ['_', '_', 't', 'i', 'n', 'i', '_', '_']) (o := ['t', 'c', 'e', 'j', 'b', 'o']) (by kernel_rfl) owner_object]
  exact fun us h => match us, h with
  | [], _ => by kernel_rfl
  | [a0], _ => by kernel_rfl
  | [a0, a1], _ => by kernel_rfl
  | [a0, a1, a2], _ => by kernel_rfl
  | [a0, a1, a2, a3], _ => by kernel_rfl
  | [a0, a1, a2, a3, a4], _ => by kernel_rfl
  | [a0, a1, a2, a3, a4, a5], _ => by kernel_rfl
  | [a0, a1, a2, a3, a4, a5, a6], _ => by kernel_rfl
  | [a0, a1, a2, a3, a4, a5, a6, a7], _ => by kernel_rfl
  | [a0, a1, a2, a3, a4, a5, a6, a7, a8], _ => by kernel_rfl
  | [a0, a1, a2, a3, a4, a5, a6, a7, a8, a9], _ => by kernel_rfl
  | [a0, a1, a2, a3, a4, a5, a6, a7, a8, a9, a10], _ => by kernel_rfl
  | [a0, a1, a2, a3, a4, a5, a6, a7, a8, a9, a10, a11], _ => by kernel_rfl
  | _ :: _ :: _ :: _ :: _ :: _ :: _ :: _ :: _ :: _ :: _ :: _ :: _ :: _, h => by simp only [List.length_cons] at h; omega
end Zn

namespace Zn
open PySem
open PySem.Sem (wp)
/-- what is walked, at its place -/
def Laid (h : Heap) (bs : List (Bool × Addr)) (xss : List (Array Value)) : Prop := ∀ (j : Nat) (q : Bool × Addr) (xs : Array Value), bs[j]? = some q → xss[j]? = some xs → SqK q.1 h q.2 xs
/-- the sources of iterators that stand from n on -/
def srcs (n : Nat) (bs : List (Bool × Addr)) : List Src := bs.zipIdx.map fun q => (q.1.1, n + q.2, q.1.2)
theorem srcs_get {n : Nat} {bs : List (Bool × Addr)} {j : Nat} {q : Src} : (srcs n bs)[j]? = some q ↔ ∃ b, bs[j]? = some b ∧ q = (b.1, n + j, b.2) := by
  unfold srcs
  simp only [List.getElem?_map, List.getElem?_zipIdx, Option.map_map, Option.map_eq_some_iff, Nat.zero_add]
  constructor
  · rintro ⟨b, e, rfl⟩
    exact ⟨b, e, rfl⟩
  · rintro ⟨b, e, rfl⟩
    exact ⟨b, e, rfl⟩
theorem srcs_len {n : Nat} {bs : List (Bool × Addr)} : (srcs n bs).length = bs.length := by
  unfold srcs
  rw [List.length_map, List.length_zipIdx]
section
variable {prog : Program} {w : World} {A : Around} {E : Value → Shared → Prop} {s : Shared}
theorem iter_all {bs : List (Bool × Addr)} {xss : List (Array Value)} {Q : List Value → Shared → Prop} (hl : xss.length = bs.length) (hb : Laid s.heap bs xss)
    (hQ : ∀ h', h'.objs.size = s.heap.objs.size + bs.length → (∀ c o, s.heap.get? c = some o → h'.get? c = some o) → At h' 0 (srcs s.heap.objs.size bs) xss → Q ((srcs s.heap.objs.size bs).map fun q => .ref q.2.1) { s with heap := h' }) :
    wpAny (model prog w) A (Builtin.SmallTypes.iterAll (bs.map fun q => .ref q.2)) Q E s := by
  unfold Builtin.SmallTypes.iterAll
  refine wpAny_bind ?_
  refine forIn_steps (bs.map fun q => Value.ref q.2) (fun j => (((srcs s.heap.objs.size bs).map fun q => Value.ref q.2.1).take j).toArray)
    (fun j s' => ∃ h, s' = { s with heap := h } ∧ h.objs.size = s.heap.objs.size + j ∧ (∀ c o, s.heap.get? c = some o → h.get? c = some o) ∧ ∀ (i : Nat) (q : Src) (xs : Array Value), i < j → (srcs s.heap.objs.size bs)[i]? = some q → xss[i]? = some xs → ItK q.1 h q.2.1 q.2.2 0) 0 _ ?_ ?_ ?_
  · rintro j a s2 haj ⟨h, rfl, hz, hk, hi⟩
    rw [Nat.zero_add] at hz hi ⊢
    obtain ⟨q, hq, rfl⟩ : ∃ q, bs[j]? = some q ∧ Value.ref q.2 = a := by
      simpa only [List.getElem?_map, Option.map_eq_some_iff] using haj
    have lj := (List.getElem?_eq_some_iff.mp hq).1
    have e1 : xss[j]? = some xss[j] := List.getElem?_eq_getElem (by omega)
    have hs := hb j q _ hq e1
    refine wpAny_bind (wpAny_holding (iter_seq (s := { s with heap := h }) (hs.at fun o e => hk _ _ e) fun h' z1 k1 i1 => ?_))
    have z1 : h'.objs.size = h.objs.size + 1 := z1
    have i1 : ItK q.1 h' h.objs.size q.2 0 := i1
    have k1 : ∀ c o, h.get? c = some o → h'.get? c = some o := k1
    have eq : (srcs s.heap.objs.size bs)[j]? = some (q.1, s.heap.objs.size + j, q.2) := srcs_get.mpr ⟨q, hq, rfl⟩
    refine wpAny_pure ⟨?_, h', rfl, by omega, fun c o e => k1 c o (hk c o e), fun i r xs hij hr hx => ?_⟩
    · show ForInStep.yield ((List.take j _).toArray.push (Value.ref h.objs.size)) = _
      rw [List.take_add_one, List.getElem?_map, eq, hz]
      simp
    · by_cases c : i = j
      · subst c
        rw [eq] at hr
        cases hr
        rw [← hz]
        exact i1
      · exact (hi i r xs (by omega) hr hx).at fun o e => k1 _ _ e
  · exact ⟨s.heap, rfl, rfl, fun _ _ e => e, fun i q xs hi => absurd hi (Nat.not_lt_zero _)⟩
  · rintro s2 ⟨h, rfl, hz, hk, hi⟩
    rw [Nat.zero_add, List.length_map] at hz hi ⊢
    have e : List.take bs.length ((srcs s.heap.objs.size bs).map fun q => Value.ref q.2.1) = (srcs s.heap.objs.size bs).map fun q => Value.ref q.2.1 := List.take_of_length_le (by rw [List.length_map, srcs_len]; exact Nat.le_refl _)
    rw [e]
    refine wpAny_pure ?_
    refine hQ h hz hk fun i q xs hq hx => ⟨hi i q xs (by rw [← srcs_len (n := s.heap.objs.size)]; exact (List.getElem?_eq_some_iff.mp hq).1) hq hx, ?_⟩
    obtain ⟨b, hbq, rfl⟩ := srcs_get.mp hq
    exact (hb i b xs hbq hx).at fun o e => hk _ _ e
end
theorem class_zip (us : List Value) : Builtin.SmallTypes.newClass "zip" ⟨.type "zip" :: us, []⟩ = pure (.type "zip", us) := by
  unfold Builtin.SmallTypes.newClass
  show (isType (.type "zip") >>= _) = _
  have h1 : isType (.type "zip") = pure true := rfl
  simp only [h1, pure_bind, sub_zip]
  rfl
theorem meets_new (bs : List (Bool × Addr)) (xss : List (Array Value)) (hl : xss.length = bs.length) (hz : bs.length ≤ sizeLine) :
    Meets (Builtin.«zip.__new__» ⟨.type "zip" :: bs.map (fun q => .ref q.2), []⟩) (fun _ R s => Laid s.heap bs xss ∧ ∀ h', (∀ c o, s.heap.get? c = some o → h'.get? c = some o) → h'.objs.size = s.heap.objs.size + bs.length + 3 →
      At h' 0 (srcs s.heap.objs.size bs) xss → IsTupN h' (s.heap.objs.size + bs.length) ((srcs s.heap.objs.size bs).map fun q => .ref q.2.1) → IsTupN h' (s.heap.objs.size + bs.length + 1) ((srcs s.heap.objs.size bs).map fun _ => .none) →
      IsZipN h' (s.heap.objs.size + bs.length + 2) (s.heap.objs.size + bs.length) (s.heap.objs.size + bs.length + 1) .none (.bool false) → R (.ok (.ret (.ref (s.heap.objs.size + bs.length + 2)))) { s with heap := h' }) :=
  .of_wp fun prog w A R s h => by
    obtain ⟨hb, h⟩ := h
    unfold Builtin.«zip.__new__»
    refine wpAny_bind (wpAny_of_eq (class_zip _) ?_)
    show wpAny _ _ (Builtin.SmallTypes.iterAll _ >>= _) _ _ _
    refine wpAny_bind (iter_all hl hb fun h' z1 k1 a1 => ?_)
    have hs2 : ((srcs s.heap.objs.size bs).map fun q => Value.ref q.2.1).length ≤ sizeLine := by rw [List.length_map, srcs_len]; exact hz
    refine wpAny_bind (wpAny_newTuple ?_ hs2)
    refine wpAny_bind (wpAny_newTuple ?_ (by rw [List.length_map]; exact hs2))
    have p1 : ∀ {hh : Heap} {x y : Obj} {c o}, hh.get? c = some o → ((hh.push x).push y).get? c = some o := fun e => Heap.get?_push_of_some _ (Heap.get?_push_of_some _ e)
    refine wpAny_bind ?_
    unfold Builtin.SmallTypes.newRecord
    refine wpAny_newObj_type (wpAny_pure ⟨_, rfl, ?_⟩) (by show 5 ≤ sizeLine + 2; decide)
    have s1 : (h'.push ({ cls := .type "tuple", data := .seq (List.map (fun q => Value.ref q.snd.fst) (srcs s.heap.objs.size bs)).toArray } : Obj)).objs.size = s.heap.objs.size + bs.length + 1 := by rw [Heap.size_push, z1]
    have s2 : ((h'.push ({ cls := .type "tuple", data := .seq (List.map (fun q => Value.ref q.snd.fst) (srcs s.heap.objs.size bs)).toArray } : Obj)).push ({ cls := .type "tuple", data := .seq (List.map (fun _ => Value.none) (List.map (fun q => Value.ref q.snd.fst) (srcs s.heap.objs.size bs))).toArray } : Obj)).objs.size = s.heap.objs.size + bs.length + 2 := by rw [Heap.size_push, s1]
    show R (Except.ok (Flow.ret (Value.ref (Heap.objs (Heap.push _ _)).size))) _
    rw [s2]
    refine h _ (fun c o e => Heap.get?_push_of_some _ (p1 (k1 c o e))) ?_ (fun i q xs hq hx => ?_) ?_ ?_ ?_
    · show (Heap.objs (Heap.push _ _)).size = _
      rw [Heap.size_push, s2]
    · obtain ⟨b, hbq, e⟩ := srcs_get.mp hq
      obtain ⟨x1, x2⟩ := a1 i q xs hq hx
      exact ⟨x1.at fun o e => Heap.get?_push_of_some _ (p1 e), x2.at fun o e => Heap.get?_push_of_some _ (p1 e)⟩
    · rw [← z1]
      exact Heap.get?_push_of_some _ (Heap.get?_push_of_some _ (Heap.get?_push_size _ rfl))
    · rw [← s1]
      refine (Heap.get?_push_of_some _ (Heap.get?_push_size _ rfl)).trans ?_
      rw [List.map_map]
      rfl
    · rw [← s2]
      refine (Heap.get?_push_size _ rfl).trans ?_
      show some ({ cls := .type "zip", data := .fields #[.none, .bool false, Value.bool false, Value.ref h'.objs.size, Value.ref (h'.push ({ cls := .type "tuple", data := .seq (List.map (fun q => Value.ref q.snd.fst) (srcs s.heap.objs.size bs)).toArray } : Obj)).objs.size] } : Obj) = _
      rw [s1, z1]
section
variable {prog : Program} {w : World} {A : Around} {E : Value → Shared → Prop} {s : Shared}
theorem call_zipN {bs : List (Bool × Addr)} {xss : List (Array Value)} {Q : Value → Shared → Prop} (hl : xss.length = bs.length) (hz : bs.length ≤ 12) (hb : Laid s.heap bs xss)
    (h : ∀ h', (∀ c o, s.heap.get? c = some o → h'.get? c = some o) → h'.objs.size = s.heap.objs.size + bs.length + 3 →
      At h' 0 (srcs s.heap.objs.size bs) xss → IsTupN h' (s.heap.objs.size + bs.length) ((srcs s.heap.objs.size bs).map fun q => .ref q.2.1) → IsTupN h' (s.heap.objs.size + bs.length + 1) ((srcs s.heap.objs.size bs).map fun _ => .none) →
      IsZipN h' (s.heap.objs.size + bs.length + 2) (s.heap.objs.size + bs.length) (s.heap.objs.size + bs.length + 1) .none (.bool false) → Q (.ref (s.heap.objs.size + bs.length + 2)) { s with heap := h' }) :
    wpAny (model prog w) A (call (.type "zip") (bs.map fun q => .ref q.2)) Q E s := by
  have hn : (bs.map fun q => Value.ref q.2).length ≤ 12 := by rw [List.length_map]; exact hz
  refine callType_new F.called_zip (by decide) (tc _ hn) (nc _ hn) (fun obj => oi obj _ hn) F.entry_zip_new (meets_new bs xss hl (Nat.le_trans hz (by decide))) ⟨hb, fun h' k z a t1 t2 iz => ?_⟩
  show _ ∧ _
  exact ⟨⟨_, iz, rfl⟩, h h' k z a t1 t2 iz⟩
theorem self_zip {z TI TO : Addr} {f0 f1 : Value} {Q : Value → Shared → Prop} (hz : IsZipN s.heap z TI TO f0 f1) (h : Q (.ref z) s) : wpAny (model prog w) A (pyIter (.ref z)) Q E s := by
  have hT : s.TypeIs (.ref z) "zip" := ⟨_, hz, rfl⟩
  refine wpAny_pyIter_slot hT F.slot_zip_iter (wpAny_call_entry F.slot_zip_iter hT F.entry_zip_iter ?_ (F.args_zip_iter_1 _))
  show wpAny _ _ (ret (.ref z)) _ _ s
  exact wpAny_pure ⟨_, rfl, "zip", _, hT, F.slot_zip_next.lookup, h⟩
end
end Zn

namespace Zn
open PySem PySem.Spec PyProof.Rows L2
/-- a list or a tuple of values -/
def SqV (K : PySem.W.Frag) (H : Hp) (b : Bool) (p : Addr) (xs : List V) : Prop := if b then SqL K H p xs else SqT K H p xs
theorem SqV.any {K : PySem.W.Frag} {H : Hp} {b : Bool} {p : Addr} {xs : List V} (h : SqV K H b p xs) : SqT K H p xs ∨ SqL K H p xs := by
  cases b
  · exact .inl h
  · exact .inr h
theorem SqV.get {X : Cx} {pins : List (Addr × Obj)} {σ : L2.St} {H : Hp} {s : Shared} {b : Bool} {p : Addr} {xs : List V} (I : Inv X pins σ H s) (h : SqV X.K H b p xs) : ∃ us, Vals xs us ∧ SqK b s.heap p us.toArray := by
  cases b
  · obtain ⟨its, r, pl, _⟩ := I.tuple h
    exact ⟨its, r, pl⟩
  · obtain ⟨its, r, pl, _⟩ := I.list h
    exact ⟨its, r, pl.isList⟩
theorem SqV.inj {X : Cx} {pins : List (Addr × Obj)} {σ : L2.St} {H : Hp} {s : Shared} {b : Bool} {p : Addr} {xs ys : List V} (I : Inv X pins σ H s) (h : SqV X.K H b p xs) (h' : SqV X.K H b p ys) : xs = ys := by
  cases b
  · exact I.tuple_inj h h'
  · exact I.list_inj h h'
abbrev Bs := List (Bool × Addr)
/-- the sources stand, each with its row -/
inductive Rws (K : PySem.W.Frag) (H : Hp) : Bs → List (List V) → Prop
  | nil : Rws K H [] []
  | cons {q : Bool × Addr} {xs : List V} {bs : Bs} {xss : List (List V)} : SqV K H q.1 q.2 xs → Rws K H bs xss → Rws K H (q :: bs) (xs :: xss)
/-- the items at i -/
inductive Col (i : Nat) : List (List V) → List V → Prop
  | nil : Col i [] []
  | cons {xs : List V} {x : V} {xss : List (List V)} {vs : List V} : xs[i]? = some x → Col i xss vs → Col i (xs :: xss) (x :: vs)
theorem Col.len {i : Nat} {xss : List (List V)} {vs : List V} (c : Col i xss vs) : vs.length = xss.length := by
  induction c with
  | nil => rfl
  | cons _ _ ih => rw [List.length_cons, List.length_cons, ih]
theorem Col.of {i : Nat} : ∀ {xss : List (List V)}, (∀ xs ∈ xss, i < xs.length) → ∃ vs, Col i xss vs
  | [], _ => ⟨[], .nil⟩
  | xs :: xss, h => by
    obtain ⟨vs, c⟩ := Col.of fun ys hy => h ys (List.mem_cons_of_mem _ hy)
    exact ⟨xs[i]'(h xs List.mem_cons_self) :: vs, .cons (List.getElem?_eq_getElem _) c⟩
theorem Col.inj {i : Nat} {xss : List (List V)} {vs ws : List V} (c : Col i xss vs) (d : Col i xss ws) : vs = ws := by
  induction c generalizing ws with
  | nil => cases d; rfl
  | cons e c ih =>
    cases d with
    | cons e' d => rw [e] at e'; cases e'; rw [ih d]
/-- the objects behind them -/
theorem rows_get {X : Cx} {pins : List (Addr × Obj)} {σ : L2.St} {H : Hp} {s : Shared} (I : Inv X pins σ H s) {bs : Bs} {xss : List (List V)} (h : Rws X.K H bs xss) :
    ∃ us : List (List Value), us.length = bs.length ∧ Laid s.heap bs (us.map List.toArray) ∧ ∀ (i : Nat) (vs : List V), Col i xss vs → ∃ ws, Vals vs ws ∧ ws.length = bs.length ∧ ∀ (j : Nat) (u : Array Value), (us.map List.toArray)[j]? = some u → u[i]? = ws[j]? := by
  induction h with
  | nil =>
    refine ⟨[], rfl, (fun j q xs h1 => by simp at h1), fun i vs c => ?_⟩
    cases c
    exact ⟨[], .nil, rfl, fun j u h => by simp at h⟩
  | cons a t ih =>
    obtain ⟨us, l1, l2, l3⟩ := ih
    obtain ⟨u, r, k⟩ := SqV.get I a
    refine ⟨u :: us, by rw [List.length_cons, List.length_cons, l1], fun j q xs h1 h2 => ?_, fun i vs c => ?_⟩
    · cases j with
      | zero => cases h1; cases h2; exact k
      | succ j => exact l2 j q xs h1 h2
    · cases c with
      | cons e c =>
        obtain ⟨ws, r1, n1, g⟩ := l3 i _ c
        obtain ⟨y, hy, ry⟩ := r.get e
        refine ⟨y :: ws, .cons ry r1, by rw [List.length_cons, List.length_cons, n1], fun j u' h => ?_⟩
        cases j with
        | zero =>
          cases h
          simpa using hy
        | succ j => exact g j u' h
theorem Rws.inj {X : Cx} {pins : List (Addr × Obj)} {σ : L2.St} {H : Hp} {s : Shared} (I : Inv X pins σ H s) {bs : Bs} {xss yss : List (List V)} (h : Rws X.K H bs xss) (h' : Rws X.K H bs yss) : xss = yss := by
  induction h generalizing yss with
  | nil => cases h'; rfl
  | cons a t ih =>
    cases h' with
    | cons a' t' => rw [SqV.inj I a a', ih t']
/-- the tuples that zip gives out -/
def ItzN (K : PySem.W.Frag) (bs : Bs) : It :=
  ⟨fun i H => ∃ xss, Rws K H bs xss ∧ bs ≠ [] ∧ ∀ xs ∈ xss, i < xs.length,
    fun i H v H' => ∃ T vs, v = .ref T ∧ H T = none ∧ H' = upd H T (.tup vs) ∧ ∀ xss, Rws K H bs xss → Col i xss vs,
    fun i H => bs = [] ∨ ∃ q xs, bs[0]? = some q ∧ SqV K H q.1 q.2 xs ∧ xs.length ≤ i⟩

/-- where the parts of a zip stand -/
structure ZFits (n : Nat) (bs : Bs) : Prop where
  low : ∀ q ∈ bs, (show Nat from q.2) < n
theorem ZFits.apart {n : Nat} {bs : Bs} (F : ZFits n bs) : Apart (n + bs.length + 2) (n + bs.length) (n + bs.length + 1) (srcs n bs) := by
  have each : ∀ q ∈ srcs n bs, ∃ j : Nat, j < bs.length ∧ (show Nat from q.2.1) = n + j ∧ (show Nat from q.2.2) < n := fun q hq => by
    obtain ⟨j, hj⟩ := List.getElem?_of_mem hq
    obtain ⟨b, hb, rfl⟩ := srcs_get.mp hj
    exact ⟨j, (List.getElem?_eq_some_iff.mp hb).1, rfl, F.low b (List.mem_of_getElem? hb)⟩
  have ne : ∀ {a b : Nat}, a ≠ b → (show Addr from a) ≠ b := fun h => h
  refine ⟨ne (by omega), ne (by omega), ne (by omega), fun q hq => ?_, fun q hq => ?_, fun q hq r hr => ?_, ?_⟩
  · obtain ⟨j, h1, h2, h3⟩ := each q hq
    exact ⟨fun e => absurd (h2.symm.trans e) (by omega), fun e => absurd (h2.symm.trans e) (by omega), fun e => absurd (h2.symm.trans e) (by omega)⟩
  · obtain ⟨j, h1, h2, h3⟩ := each q hq
    have lt : ∀ m : Nat, n ≤ m → q.2.2 ≠ m := fun m hm e => by
      have h3' : (show Nat from m) < n := by rw [← show q.2.2 = m from e]; exact h3
      exact absurd h3' (Nat.not_lt.mpr hm)
    exact ⟨lt _ (Nat.le_add_right_of_le (Nat.le_add_right _ _)), lt _ (Nat.le_add_right _ _), lt _ (Nat.le_add_right_of_le (Nat.le_add_right _ _))⟩
  · obtain ⟨j, h1, h2, h3⟩ := each q hq
    obtain ⟨j', h1', h2', h3'⟩ := each r hr
    intro e
    have h4 : (show Nat from r.2.2) = n + j := by rw [← show q.2.1 = r.2.2 from e]; exact h2
    exact absurd h3' (by rw [h4]; exact Nat.not_lt.mpr (Nat.le_add_right _ _))
  · refine List.pairwise_iff_getElem.mpr fun i j hi hj lt e => ?_
    have get : ∀ k (h : k < ((srcs n bs).map (·.2.1)).length), ((srcs n bs).map (·.2.1))[k] = n + k := fun k h => by
      have hk : k < (srcs n bs).length := by rw [List.length_map] at h; exact h
      obtain ⟨b, hb, e⟩ := srcs_get.mp (List.getElem?_eq_getElem hk)
      rw [List.getElem_map, e]
    rw [get, get] at e
    exact absurd (Nat.add_left_cancel e) (Nat.ne_of_lt lt)
/-- its own objects -/
def zfp (n : Nat) (bs : Bs) : List Addr := (n + bs.length + 2) :: (n + bs.length) :: (n + bs.length + 1) :: (srcs n bs).map (·.2.1)
/-- how they stand at turn i -/
def ztn (n : Nat) (bs : Bs) (i : Nat) (h : Heap) : Prop := (∃ f0 f1, Own f0 ∧ IsZipN h (n + bs.length + 2) (n + bs.length) (n + bs.length + 1) f0 f1) ∧ IsTupN h (n + bs.length) ((srcs n bs).map fun q => .ref q.2.1) ∧
  (∃ os, os.length = (srcs n bs).length ∧ IsTupN h (n + bs.length + 1) os) ∧ ∀ q ∈ srcs n bs, ItK q.1 h q.2.1 q.2.2 i
theorem ztn_obj {n : Nat} {bs : Bs} {i : Nat} {h : Heap} (st : ztn n bs i h) : ∀ c ∈ zfp n bs, ∃ o, h.get? c = some o ∧ ∀ v, o.data ≠ .cell v := fun c hc => by
  obtain ⟨⟨f0, f1, _, iz⟩, t1, ⟨os, _, t2⟩, its⟩ := st
  have hc : c = n + bs.length + 2 ∨ c = n + bs.length ∨ c = n + bs.length + 1 ∨ ∃ q ∈ srcs n bs, q.2.1 = c := by
    simpa only [zfp, List.mem_cons, List.mem_map] using hc
  rcases hc with rfl | rfl | rfl | ⟨q, hq, rfl⟩
  · exact ⟨_, iz, fun v q => nomatch q⟩
  · exact ⟨_, t1, fun v q => nomatch q⟩
  · exact ⟨_, t2, fun v q => nomatch q⟩
  · obtain ⟨o, e, _, d⟩ := (its q hq).obj
    exact ⟨o, e, d⟩
theorem zat {n : Nat} {bs : Bs} {i : Nat} {h : Heap} {xss : List (Array Value)} (a : ∀ q ∈ srcs n bs, ItK q.1 h q.2.1 q.2.2 i) (l : Laid h bs xss) : At h i (srcs n bs) xss := fun j q xs h1 h2 => by
  refine ⟨a q (List.mem_of_getElem? h1), ?_⟩
  obtain ⟨b, hb, rfl⟩ := srcs_get.mp h1
  exact l j b xs hb h2
theorem rws_len {K : PySem.W.Frag} {H : Hp} {bs : Bs} {xss : List (List V)} (h : Rws K H bs xss) : xss.length = bs.length := by
  induction h with
  | nil => rfl
  | cons _ _ ih => rw [List.length_cons, List.length_cons, ih]
theorem turn_zipN {P : Program} {w : World} {K : PySem.W.Frag} {tg : Expr} {n : Nat} {bs : Bs} (F : ZFits n bs) (hz : bs.length ≤ 12) : Turn P w K tg (ItzN K bs) (zfp n bs) (n + bs.length + 2) (ztn n bs) where
  mem := List.mem_cons_self
  obj := fun i h st => ztn_obj st
  keep := fun i h h' st k => by
    obtain ⟨⟨f0, f1, of, iz⟩, t1, ⟨os, ol, t2⟩, its⟩ := st
    exact ⟨⟨f0, f1, of, k _ (by simp [zfp]) _ iz⟩, k _ (by simp [zfp]) _ t1, ⟨os, ol, k _ (by simp [zfp]) _ t2⟩, fun q hq => (its q hq).at fun o e => k _ (by
      simp only [zfp, List.mem_cons, List.mem_map]
      exact .inr (.inr (.inr ⟨q, hq, rfl⟩))) o e⟩
  item := by
    intro X hP hw hK hc i pins s σ H E I hf st hg
    subst hP hw hK
    have ob := ztn_obj st
    obtain ⟨⟨f0, f1, of, iz⟩, t1, ⟨os, ol, t2⟩, its⟩ := st
    obtain ⟨xss, rw_, hne, hlt⟩ := hg
    obtain ⟨us, lu, la, cu⟩ := rows_get I rw_
    obtain ⟨vs, cv⟩ := Col.of hlt
    obtain ⟨ws, rv, lw, cw⟩ := cu i vs cv
    have sl := srcs_len (n := n) (bs := bs)
    have s12 : 12 ≤ sizeLine := by decide
    have hne' : srcs n bs ≠ [] := fun e => hne (List.eq_nil_of_length_eq_zero (by rw [← sl, e]; rfl))
    have hzl : n + bs.length + 2 < s.heap.objs.size := Heap.lt_size iz
    refine next_zip F.apart hne' (by rw [List.length_map, lu, sl]) (by rw [lw, sl]) (by rw [sl]; omega) of iz t1 t2 ol (zat its la) cw fun h' af => ?_
    obtain ⟨⟨g0, g1, og, iz'⟩, ⟨os', ol', t2'⟩, at', tn', sz', rest⟩ := af
    refine ⟨_, rfl, go_zip (s := { s with heap := h' }) og iz' fun h'' g0' og' iz'' sb => ?_⟩
    have away : ∀ c o, c ∉ zfp n bs → s.heap.get? c = some o → h''.get? c = some o := fun c o hc e => by
      have hc : ¬ (c = n + bs.length + 2 ∨ c = n + bs.length ∨ c = n + bs.length + 1 ∨ ∃ q ∈ srcs n bs, q.2.1 = c) := by
        simpa only [zfp, List.mem_cons, List.mem_map] using hc
      exact (sb.2 c fun x => hc (.inl x)).trans (rest c o (fun x => hc (.inl x)) (fun x => hc (.inr (.inr (.inl x)))) (fun q hq x => hc (.inr (.inr (.inr ⟨q, hq, x.symm⟩)))) e)
    have hT2 : h''.get? s.heap.objs.size = some { cls := .type "tuple", data := .seq ws.toArray } := (sb.2 _ (Nat.ne_of_gt hzl)).trans tn'
    have lvs : vs.length = bs.length := by rw [cv.len, rws_len rw_]
    have new : ObjOk X.prog X.w (upd H s.heap.objs.size (.tup vs)) h'' s.heap.objs.size (.tup vs) := ⟨by show vs.length ≤ sizeLine; omega, ws, rv, ⟨_, hT2, rfl, _, rfl⟩⟩
    have I1 : Inv X pins σ (upd H s.heap.objs.size (.tup vs)) { s with heap := h'' } := I.turnedNew (t' := s.toks) (ch := zfp n bs) (fun c o hb q => away c o hb q) hf (Nat.le_refl _) new
    refine ⟨.ref s.heap.objs.size, _, I1, rfl, ⟨_, vs, rfl, I.hok.fresh (Nat.le_refl _), rfl, fun yss hy => by rw [Rws.inj I hy rw_]; exact cv⟩, ⟨⟨g0', g1, og', iz''⟩, (sb.2 _ F.apart.TIz).trans (rest _ _ F.apart.TIz F.apart.TITO (fun q hq x => (F.apart.iz q hq).2.1 x.symm) t1), ⟨os', ol', (sb.2 _ F.apart.TOz).trans t2'⟩, fun q hq => ?_⟩, fun c hcm => ?_⟩
    · obtain ⟨j, hj⟩ := List.getElem?_of_mem hq
      have jl : j < bs.length := by rw [← sl]; exact (List.getElem?_eq_some_iff.mp hj).1
      have z := (at' j q _ hj (List.getElem?_eq_getElem (by rw [List.length_map, lu]; exact jl))).1
      exact z.at fun o e => (sb.2 _ (F.apart.iz q hq).1).trans e
    · obtain ⟨o, e, _⟩ := ob c hcm
      rw [upd_ne (Nat.ne_of_lt (Heap.lt_size e))]
      exact (hf c hcm).1
  done := by
    intro X hP hw hK hc i pins s σ H E I hf st hg
    subst hP hw hK
    obtain ⟨⟨f0, f1, of, iz⟩, t1, ⟨os, ol, t2⟩, its⟩ := st
    have out : Out s.heap i (srcs n bs) := by
      rcases hg with rfl | ⟨q, xs, hq, sv, hl⟩
      · exact .inl rfl
      · obtain ⟨us, r, k⟩ := SqV.get I sv
        have e : (srcs n bs)[0]? = some (q.1, n + 0, q.2) := srcs_get.mpr ⟨q, hq, rfl⟩
        exact .inr ⟨_, us.toArray, e, its _ (List.mem_of_getElem? e), k, by simpa using (by rw [← r.length]; exact hl : us.length ≤ i)⟩
    exact next_zip_end (I.ok.hd hc) F.apart of iz t1 t2 ol out fun h' rest => ⟨rfl, I.turnedL (t' := s.toks) (ch := zfp n bs) (fun c o hb q => by
      have hb : ¬ (c = n + bs.length + 2 ∨ c = n + bs.length ∨ c = n + bs.length + 1 ∨ ∃ q ∈ srcs n bs, q.2.1 = c) := by
        simpa only [zfp, List.mem_cons, List.mem_map] using hb
      exact rest c o (fun x => hb (.inl x)) (fun x => hb (.inr (.inr (.inl x)))) (fun q hq x => hb (.inr (.inr (.inr ⟨q, hq, x.symm⟩)))) q) hf⟩
  self := fun A i s Q E st h => by
    obtain ⟨⟨f0, f1, _, iz⟩, _⟩ := st
    exact self_zip iz h

def iZipS (K : PySem.W.Frag) (te : TE) : TI := fun σ H R => te σ H fun y H1 => ∃ (a : Addr) (bs : Bs) (xss : List (List V)), y = V.ref a ∧ (SqT K H1 a (bs.map fun q => V.ref q.2) ∨ SqL K H1 a (bs.map fun q => V.ref q.2)) ∧ bs.length ≤ 12 ∧ Rws K H1 bs xss ∧ R (ItzN K bs) H1
def iZipP (K : PySem.W.Frag) (ta : TA) : TI := fun σ H R => ta σ H fun vs H1 => ∃ (p q : Bool × Addr) (xs ys : List V), vs = [V.ref p.2, V.ref q.2] ∧ SqV K H1 p.1 p.2 xs ∧ SqV K H1 q.1 q.2 ys ∧ R (ItzN K [p, q]) H1
theorem vals_refs : ∀ {bs : Bs} {us : List Value}, Vals (bs.map fun q => V.ref q.2) us → us = bs.map fun q => Value.ref q.2
  | [], _, .nil => rfl
  | q :: bs, _, .cons r t => by
    cases r
    rw [vals_refs t]
    rfl
section
variable {X : Cx} {pins : List (Addr × Obj)} {σ : L2.St} {H : Hp} {s : Shared}
/-- the zip is made and asked for its iterator -/
theorem zip_made {tg : Expr} {bs : Bs} {xss : List (List V)} {R : It → Hp → Prop} (I : Inv X pins σ H s) (hz : bs.length ≤ 12) (rw_ : Rws X.K H bs xss) (q : R (ItzN X.K bs) H) :
    wpAny (model X.prog X.w) X.A (call (.type "zip") (bs.map fun q => Value.ref q.2)) (fun v s1 => wpAny (model X.prog X.w) X.A (pyIter v) (PIE X pins σ tg R) X.xe s1) X.xe s := by
  obtain ⟨us, lu, la, _⟩ := rows_get I rw_
  have F : ZFits s.heap.objs.size bs := ⟨fun q hq => by
    obtain ⟨j, hj⟩ := List.getElem?_of_mem hq
    have jl := (List.getElem?_eq_some_iff.mp hj).1
    obtain ⟨o, ho, _⟩ := (la j q _ hj (List.getElem?_eq_getElem (by rw [List.length_map, lu]; exact jl))).obj
    exact Heap.lt_size ho⟩
  refine call_zipN (xss := us.map List.toArray) (by rw [List.length_map, lu]) hz la fun h' k sz at' t1 t2 iz => self_zip (s := { s with heap := h' }) iz ?_
  have sl := srcs_len (n := s.heap.objs.size) (bs := bs)
  refine ⟨_, zfp s.heap.objs.size bs, ztn s.heap.objs.size bs, _, H, rfl, I.kept (t' := s.toks) k, turn_zipN F hz, ⟨⟨_, _, .inl rfl, iz⟩, t1, ⟨_, by rw [List.length_map], t2⟩, fun q hq => ?_⟩, fun c hc => ?_, q⟩
  · obtain ⟨j, hj⟩ := List.getElem?_of_mem hq
    have jl : j < bs.length := by rw [← sl]; exact (List.getElem?_eq_some_iff.mp hj).1
    exact (at' j q _ hj (List.getElem?_eq_getElem (by rw [List.length_map, lu]; exact jl))).1
  · have hc : c = s.heap.objs.size + bs.length + 2 ∨ c = s.heap.objs.size + bs.length ∨ c = s.heap.objs.size + bs.length + 1 ∨ ∃ q ∈ srcs s.heap.objs.size bs, q.2.1 = c := by
      simpa only [zfp, List.mem_cons, List.mem_map] using hc
    have hle : s.heap.objs.size ≤ c := by
      rcases hc with rfl | rfl | rfl | ⟨q, hq, rfl⟩
      · exact Nat.le_add_right_of_le (Nat.le_add_right _ _)
      · exact Nat.le_add_right _ _
      · exact Nat.le_add_right_of_le (Nat.le_add_right _ _)
      · obtain ⟨j, hj⟩ := List.getElem?_of_mem hq
        obtain ⟨b, _, rfl⟩ := srcs_get.mp hj
        exact Nat.le_add_right _ _
    exact I.fpOk hle (I.hok.fresh hle)
/-- zip(*e): any number of lists and tuples -/
theorem pi_zipS {tg e : Expr} {te : TE} {p sp pos : Pos} (hg : Gl X "zip") (hm : X.mg "zip" = none) (he : PE X e te) (hst : starEach [.Starred e sp] X.env = [(true, eval e X.env)] := by rfl) :
    PI X tg (.Call (.Name "zip" p) [.Starred e sp] [] pos) (iZipS X.K te) := by
  refine ⟨fun pins s σ H R I h => ?_⟩
  refine Call_ (ld_blt I hg hm PyProof.Rows.boot_zip ?_)
  rw [hst]
  refine PySem.W.ks_call (P := fun _ => True) rfl (fun h _ => ⟨.machine, .inr (.inl rfl), PySem.W.Looks.of_pure rfl⟩) (PySem.W.ks_lone (thn (he.run pins s σ H _ I h) fun v s1 ⟨y, H1, I1, ry, a, bs, xss, ey, hx, hz, rw_, q⟩ => ?_))
  subst ey
  obtain rfl : v = Value.ref a := ry
  refine StX.star_any I1 hx fun us s2 I2 rv => ⟨trivial, ?_⟩
  rw [vals_refs rv]
  exact zip_made I2 hz rw_ q
/-- zip(e, e2): each a list or a tuple -/
theorem pi_zipP {tg e e2 : Expr} {ta : TA} {p pos : Pos} (hg : Gl X "zip") (hm : X.mg "zip" = none) (ha : PA X [e, e2] ta)
    (hs : starEach [e, e2] X.env = (false, eval e X.env) :: starEach [e2] X.env := by rfl) (hpl : (backTo pos (starEach [e2] X.env)).any (·.1) = false := by rfl) :
    PI X tg (.Call (.Name "zip" p) [e, e2] [] pos) (iZipP X.K ta) := by
  refine ⟨fun pins s σ H R I h => ?_⟩
  refine Call_ (ld_blt I hg hm PyProof.Rows.boot_zip (PyProof.Rows.callWith_type1 (thn (ha.run pos pins s σ H _ I h) fun us s1 ⟨vs, H1, I1, r1, p, q, xs, ys, ev, h1, h2, qq⟩ => ?_) hs hpl))
  subst ev
  have e := vals_refs (bs := [p, q]) r1
  subst e
  exact zip_made I1 (show 2 ≤ 12 by decide) (.cons h1 (.cons h2 .nil)) qq
end
end Zn

/-! min(xs, default=d) of a list of ints -/
namespace Zn
open PySem PySem.Spec PyProof.Rows L2
section
variable {prog : Program} {w : World} {A : Around} {s : Shared} {R : Result → Shared → Prop} {l it bst : Addr} {its : Array Value} {val : Nat → Int}
theorem minD_loop (kw : List (Str × Value)) (hv : ∀ (i : Nat) (v : Value), its[i]? = some v → ∃ t, v = Value.int (val i) t) (hh : A.in1.handled = none) (hli : l ≠ it) (hbi : bst ≠ it) (hbl : bst ≠ l) :
    ∀ (r j b : Nat) (s : Shared) (vb : Value) (c : Nat), its.size - j = r → j ≤ its.size → s.heap.IsListIter it l j → s.heap.IsList l its → its[b]? = some vb → b < j → (∀ i, i < j → val b ≤ val i) →
      s.heap.get? bst = some { cls := .type "list", dict := none, data := .seq #[vb, vb] c, slots := #[] } →
      (∀ v h' tk b, its[b]? = some v → (∀ i, i < its.size → val b ≤ val i) → (∀ x o, x ≠ it → x ≠ bst → s.heap.get? x = some o → h'.get? x = some o) → R (.ok (.ret v)) { s with heap := h', toks := tk }) →
      codeAny (model prog w) A (.builtin "min.loop" ⟨[.ref it, .none, .ref bst], kw⟩) R s := by
  have word : (toString "min" ++ toString ".loop" : String) = "min.loop" := by decide
  have W := Walks.list (prog := prog) (w := w) (A := A.in1) hh it l hli its
  intro r
  induction r with
  | zero =>
    intro j b s vb c hr hj i1 i2 hb hbj least hS fin
    have ej : j = its.size := by omega
    subst ej
    refine codeAny_builtin PySem.F.entry_min_loop ?_
    rw [Around.under_plainId PySem.F.plain_min_loop _]
    show wpAny _ A.in1 (seqItems? (.ref bst) >>= _) _ _ _
    refine wpAny_bind (wpAny_seqItems hS rfl (?_ : wpAny _ A.in1 (tryCatch (pyNext (.ref it)) _ >>= _) _ _ _))
    refine wpAny_bind (wpAny_tryCatch (W.done s _ _ ⟨i1, i2⟩ fun h' tk kept => ?_))
    have hS2 := kept bst _ (by simpa using hbi) hS
    refine (?_ : wpAny _ A.in1 (updateSeq bst (fun _ => #[]) >>= _) _ _ _)
    refine wpAny_bind (wpAny_updateSeq hS2 rfl (wpAny_bind (wpAny_letGo (wpAny_pure (fin vb _ tk b hb least fun x o x1 x2 e => ?_)))))
    exact (Heap.get?_update_other _ _ (Ne.symm x2)).trans (kept x o (by simpa using x1) e)
  | succ r ih =>
    intro j b s vb c hr hj i1 i2 hb hbj least hS fin
    have lt : j < its.size := by omega
    refine codeAny_builtin PySem.F.entry_min_loop ?_
    rw [Around.under_plainId PySem.F.plain_min_loop _]
    show wpAny _ A.in1 (seqItems? (.ref bst) >>= _) _ _ _
    refine wpAny_bind (wpAny_seqItems hS rfl (?_ : wpAny _ A.in1 (tryCatch (pyNext (.ref it)) _ >>= _) _ _ _))
    refine wpAny_bind (wpAny_tryCatch (W.item j s _ _ lt ⟨i1, i2⟩ fun v h' tk hP st kept => ?_))
    have hS2 := kept bst _ (by simpa using hbi) hS
    obtain ⟨t1, e1⟩ := hv j v hP
    obtain ⟨t2, e2⟩ := hv b vb hb
    refine (?_ : wpAny _ A.in1 (tryCatch (holding [v, v] (richCompare .Lt v vb >>= _)) _ >>= _) _ _ _)
    refine wpAny_bind (wpAny_tryCatch (wpAny_holding (wpAny_bind (CmpOf.ints_lt (prog := prog) (w := w) (A := A.in1) (P := fun i v => ∃ t, v = Value.int (val i) t) val (fun i v h => h) j b v vb _ _ _ ⟨t1, e1⟩ ⟨t2, e2⟩ (wpAny_bind (wpAny_holding (wpAny_truthy_bool ?_)))))))
    refine wpAny_bind (wpAny_letGo (wpAny_pure ?_))
    by_cases q : (val j < val b)
    · simp only [decide_eq_true q, if_true]
      refine wpAny_bind (wpAny_updateSeq hS2 rfl (wpAny_bind (wpAny_letGo ?_)))
      rw [word]
      have sb := Heap.SameBut.update h' bst (Obj.mapSeq fun _ => #[v, v])
      refine wpAny_pure ⟨plainId_quiet PySem.F.plain_min_loop _, ih (j + 1) j _ v _ (by omega) lt (st.1.extBut sb.extBut hbi.symm) (st.2.extBut sb.extBut hbl.symm) hP (Nat.lt_succ_self _) (fun i hi => ?_) (Heap.get?_update_self _ hS2 rfl) fun v' h2 tk2 b' g1 g2 g3 => ?_⟩
      · by_cases c : (i = j)
        · rw [c]
          exact Int.le_refl _
        · exact Int.le_of_lt (Int.lt_of_lt_of_le q (least i (by omega)))
      · exact fin v' h2 tk2 b' g1 g2 fun x o x1 x2 e => g3 x o x1 x2 ((sb.2 x x2).trans (kept x o (by simpa using x1) e))
    · simp only [decide_eq_false q, Bool.false_eq_true, if_false]
      refine wpAny_bind (wpAny_letGo ?_)
      rw [word]
      refine wpAny_pure ⟨plainId_quiet PySem.F.plain_min_loop _, ih (j + 1) b _ vb c (by omega) lt st.1 st.2 hb (by omega) (fun i hi => ?_) hS2 fun v' h2 tk2 b' g1 g2 g3 => ?_⟩
      · by_cases c : (i = j)
        · rw [c]
          exact Int.not_lt.mp q
        · exact least i (by omega)
      · exact fin v' h2 tk2 b' g1 g2 fun x o x1 x2 e => g3 x o x1 x2 (kept x o (by simpa using x1) e)
end
theorem ints_at {its : List Value} {ns : List Int} (hi : IntsAre its ns) : ∀ (i : Nat) (v : Value), its[i]? = some v → ∃ t, v = Value.int (ns.getD i 0) t := by
  induction hi with
  | nil => exact fun i v e => by simp at e
  | cons n t r ih =>
    intro i v e
    cases i with
    | zero =>
      cases e
      exact ⟨t, rfl⟩
    | succ i => exact ih i v e
theorem minD_args (a v : Value) : argsOk "min" ⟨[a], [(Str.ofString "default", v)]⟩ := by unfold argsOk; kernel_rfl
section
variable {prog : Program} {w : World} {A : Around} {E : Value → Shared → Prop} {s : Shared}
theorem minD_raw {l : Addr} {its : List Value} {ns : List Int} {d : Value} {Q : Value → Shared → Prop} (hh : A.handled = none) (hl : s.heap.IsList l its.toArray) (hi : IntsAre its ns)
    (h0 : ∀ h' tk, (∀ b o, s.heap.get? b = some o → h'.get? b = some o) → ns = [] → Q d { s with heap := h', toks := tk })
    (h1 : ∀ h' tk m t', (∀ b o, s.heap.get? b = some o → h'.get? b = some o) → m ∈ ns → (∀ a ∈ ns, m ≤ a) → Q (.int m t') { s with heap := h', toks := tk }) :
    wpAny (model prog w) A (call (.builtin "min") [.ref l] [("default", d)]) Q E s := by
  have word : (toString "min" ++ toString ".loop" : String) = "min.loop" := by decide
  refine kmb_tree PySem.F.kind_min PySem.F.plain_min PySem.F.entry_min (minD_args _ _) ?_
  show wpAny _ A.in1 (Builtin.Builtins.bindParams "min" ["key", "default"] 0 ⟨[], [("default", d)]⟩ >>= _) _ _ s
  refine wpAny_bind (wpAny_of_eq (show Builtin.Builtins.bindParams "min" ["key", "default"] 0 ⟨[], [("default", d)]⟩ = pure [none, some d] from rfl) ?_)
  refine wpAny_bind (wpAny_pure ?_)
  refine wpAny_bind (wpAny_pyIter_list hl ?_)
  refine wpAny_bind (wpAny_newObj_type ?_)
  rw [word]
  have e1 : its = [] ∨ 0 < its.length := by
    cases its with
    | nil => exact .inl rfl
    | cons a l => exact .inr (Nat.succ_pos _)
  have it1 : (s.heap.push { cls := .type "list_iterator", data := .fields #[.ref l, .int 0 0] }).objs.size = s.heap.objs.size + 1 := Heap.size_push ..
  have nS : ∀ {o : Obj}, o.isFreed = false → (((s.heap.push { cls := .type "list_iterator", data := .fields #[.ref l, .int 0 0] }).push o).get? (s.heap.objs.size + 1)) = some o := fun hf => by
    rw [← it1]
    exact Heap.get?_push_size _ hf
  have nI : ∀ {o : Obj}, ((s.heap.push { cls := .type "list_iterator", data := .fields #[.ref l, .int 0 0] }).push o).IsListIter s.heap.objs.size l 0 := ⟨_, Heap.get?_push_of_some _ (Heap.get?_push_size _ rfl), rfl, rfl⟩
  have nL : ∀ {o : Obj}, ((s.heap.push { cls := .type "list_iterator", data := .fields #[.ref l, .int 0 0] }).push o).IsList l its.toArray := (hl.push _).push _
  have ll : l < s.heap.objs.size := by
    obtain ⟨o, ho, _⟩ := hl
    exact Heap.lt_size ho
  have hv : ∀ (i : Nat) (v : Value), its.toArray[i]? = some v → ∃ t, v = Value.int (ns.getD i 0) t := fun i v e => ints_at hi i v (by simpa using e)
  have hlen : its.length = ns.length := hi.length
  have W := Walks.list (prog := prog) (w := w) (A := A.in1) hh s.heap.objs.size l (Nat.ne_of_lt ll) its.toArray
  refine wpAny_pure ⟨plainId_quiet PySem.F.plain_min_loop _, ?_⟩
  refine codeAny_builtin PySem.F.entry_min_loop ?_
  rw [Around.under_plainId PySem.F.plain_min_loop _]
  show wpAny _ A.in1 (seqItems? (.ref _) >>= _) _ _ _
  rw [it1]
  refine wpAny_bind (wpAny_seqItems (nS rfl) rfl (?_ : wpAny _ A.in1 (tryCatch (pyNext (.ref s.heap.objs.size)) _ >>= _) _ _ _))
  rcases e1 with e0 | e1
  · refine wpAny_bind (wpAny_tryCatch (W.done _ _ _ ⟨by rw [e0]; exact nI, nL⟩ fun h' tk kept => ?_))
    refine wpAny_bind (wpAny_rule (wpAny_pure ?_))
    have n0 : ns = [] := List.eq_nil_of_length_eq_zero (by rw [← hlen, e0]; rfl)
    exact h0 h' tk (fun b o e => kept b o (by simpa using Nat.ne_of_lt (Heap.lt_size e)) (Heap.get?_push_of_some _ (Heap.get?_push_of_some _ e))) n0
  · refine wpAny_bind (wpAny_tryCatch (W.item 0 _ _ _ (by simpa using e1) ⟨nI, nL⟩ fun v h' tk hP st kept => ?_))
    have hS2 := kept (s.heap.objs.size + 1) _ (by simp) (nS rfl)
    refine (?_ : wpAny _ A.in1 (updateSeq (s.heap.objs.size + 1) (fun _ => #[v, v]) >>= _) _ _ _)
    refine wpAny_bind (wpAny_updateSeq hS2 rfl ?_)
    rw [word]
    have sb := Heap.SameBut.update h' (s.heap.objs.size + 1) (Obj.mapSeq fun _ => #[v, v])
    have n1 : s.heap.objs.size ≠ s.heap.objs.size + 1 := Nat.ne_of_lt (Nat.lt_succ_self _)
    have n2 : l ≠ s.heap.objs.size + 1 := Nat.ne_of_lt (Nat.lt_succ_of_lt ll)
    refine wpAny_pure ⟨plainId_quiet PySem.F.plain_min_loop _, minD_loop _ hv hh (Nat.ne_of_lt ll) n1.symm n2.symm _ 1 0 _ v _ rfl (by simpa using Nat.succ_le_of_lt e1) (st.1.extBut sb.extBut n1) (st.2.extBut sb.extBut n2) hP Nat.one_pos (fun i hi => ?_) (Heap.get?_update_self _ hS2 rfl) fun v' h2 tk2 b' g1 g2 g3 => ?_⟩
    · have : i = 0 := by omega
      rw [this]
      exact Int.le_refl _
    · obtain ⟨t, rfl⟩ := hv b' v' g1
      have bl : b' < ns.length := by
        have := (Array.getElem?_eq_some_iff.mp g1).1
        simpa [hlen] using this
      refine h1 h2 tk2 _ t (fun b o e => ?_) ?_ fun a ha => ?_
      · have lt := Heap.lt_size e
        exact g3 b o (Nat.ne_of_lt lt) (Nat.ne_of_lt (Nat.lt_succ_of_lt lt)) ((sb.2 b (Nat.ne_of_lt (Nat.lt_succ_of_lt lt))).trans (kept b o (by simpa using Nat.ne_of_lt lt) (Heap.get?_push_of_some _ (Heap.get?_push_of_some _ e))))
      · rw [List.getD_eq_getElem?_getD, List.getElem?_eq_getElem bl]
        exact List.getElem_mem bl
      · obtain ⟨j, hj, rfl⟩ := List.getElem_of_mem ha
        have := g2 j (by simpa [hlen] using hj)
        rw [show ns.getD j 0 = ns[j] by rw [List.getD_eq_getElem?_getD, List.getElem?_eq_getElem hj] <;> rfl] at this
        exact this
end
/-- min(xs, default=d) -/
def rMinD (K : PySem.W.Frag) : List V → List V → Hp → VK → Prop := fun vs zs H Q => ∃ (a : Addr) (ns : List Int) (d : V), vs = [V.ref a] ∧ zs = [d] ∧ SqL K H a (ns.map V.int) ∧ (ns = [] → Q d H) ∧ ∀ m, m ∈ ns → (∀ y, y ∈ ns → m ≤ y) → Q (.int m) H
theorem cr_minD {X : Cx} (hc : X.calm = true) : CallRK X (.builtin "min") ["default"] (rMinD X.K) := by
  intro pins s σ H xs zs us ws Q I r1 r2 h
  obtain ⟨a, ns, d, rfl, rfl, hs, q0, q1⟩ := h
  obtain ⟨its, rv, hl, _⟩ := I.list hs
  rw [Vals.ref1 r1]
  cases r2 with
  | cons rd t =>
    cases t
    exact minD_raw (I.ok.hd hc) hl.isList rv.ints (fun h' tk k e => ⟨d, H, I.kept k, rd, q0 e⟩) fun h' tk m t' k m1 m2 => ⟨.int m, H, I.kept k, ⟨_, rfl⟩, q1 m m1 m2⟩
end Zn

/-! matrices in the heap: lists or tuples of lists or tuples -/
namespace KM
open PySem PySem.Spec PyProof.Rows L2 Gd Zn
/-- a list (true) or a tuple (false) -/
def so (b : Bool) (xs : List V) : HO := if b then .lst xs else .tup xs
theorem so_sq {K : PySem.W.Frag} {H : Hp} {b : Bool} {p : Addr} {xs : List V} (h : H p = some (so b xs)) : SqV K H b p xs := by
  cases b
  · exact SqT.of h
  · exact SqL.of h
theorem so_any {K : PySem.W.Frag} {H : Hp} {b : Bool} {p : Addr} {xs : List V} (h : H p = some (so b xs)) : SqL K H p xs ∨ SqT K H p xs := by
  cases b
  · exact .inr (SqT.of h)
  · exact .inl (SqL.of h)
theorem so_kind {H : Hp} {b : Bool} {p : Addr} {xs : List V} (h : H p = some (so b xs)) : Pv H (.ref p) ∧ (inst "list" (kind H (.ref p)) || inst "tuple" (kind H (.ref p))) = true := by
  cases b
  · have e : kind H (.ref p) = .tup := by show kindO (H p) = _; rw [h]; rfl
    rw [Pv, e]
    exact ⟨by decide, by decide⟩
  · have e : kind H (.ref p) = .lst := by show kindO (H p) = _; rw [h]; rfl
    rw [Pv, e]
    exact ⟨by decide, by decide⟩
/-- what is walked -/
def ItV (K : PySem.W.Frag) (b : Bool) (a : Addr) : It := if b then Itl K a else Itt K a
def iSq (K : PySem.W.Frag) (te : TE) : TI := fun σ H R => te σ H fun x H1 => ∃ b a xs, x = V.ref a ∧ SqV K H1 b a xs ∧ R (ItV K b a) H1
theorem pi_sq {X : Cx} {tg e : Expr} {te : TE} (he : PE X e te) : PI X tg e (iSq X.K te) := by
  refine ⟨fun pins s σ H R I h => thn (he.run pins s σ H _ I h) fun v s1 ⟨x, H1, I1, r1, b, a, xs, ex, hq, q⟩ => ?_⟩
  subst ex
  obtain rfl : v = Value.ref a := r1
  have fp : ∀ c ∈ [s1.heap.objs.size], FpOk X pins H1 c := fun c hc => by
    obtain rfl : c = s1.heap.objs.size := by simpa using hc
    exact I1.fpOk (Nat.le_refl _) (I1.hok.fresh (Nat.le_refl _))
  cases b with
  | false =>
    obtain ⟨its, rv, pl, hz⟩ := I1.tuple hq
    exact wpAny_pyIter_tuple (show s1.heap.IsTuple a its.toArray from pl) ⟨_, [_], _, _, H1, rfl, I1.kept (t' := s1.toks) fun b o e => Heap.get?_push_of_some _ e, turn_tuple a _, ⟨_, Heap.get?_push_size _ rfl, rfl, rfl⟩, fp, q⟩
  | true =>
    obtain ⟨its, rv, pl, hz⟩ := I1.list hq
    exact wpAny_pyIter_list pl.isList ⟨_, [_], _, _, H1, rfl, I1.kept (t' := s1.toks) fun b o e => Heap.get?_push_of_some _ e, turn_list a _, ⟨_, Heap.get?_push_size _ rfl, rfl, rfl⟩, fp, q⟩
theorem walk_sq {K : PySem.W.Frag} {b : Bool} {a : Addr} {xs : List V} : Walk (ItV K b a) xs.length (fun H => SqV K H b a xs) (YAt xs) := by
  cases b
  · exact walk_tup
  · exact walk_list
/-- rows at their places -/
inductive RwAt (H : Hp) : Bs → List (List V) → Prop
  | nil : RwAt H [] []
  | cons {q : Bool × Addr} {xs : List V} {bs : Bs} {xss : List (List V)} : H q.2 = some (so q.1 xs) → RwAt H bs xss → RwAt H (q :: bs) (xs :: xss)
theorem RwAt.same {H H' : Hp} (s : Same H H') {bs : Bs} {xss : List (List V)} (h : RwAt H bs xss) : RwAt H' bs xss := by
  induction h with
  | nil => exact .nil
  | cons a _ ih => exact .cons (s _ _ a) ih
theorem RwAt.len {H : Hp} {bs : Bs} {xss : List (List V)} (h : RwAt H bs xss) : bs.length = xss.length := by
  induction h with
  | nil => rfl
  | cons _ _ ih => rw [List.length_cons, List.length_cons, ih]
theorem RwAt.rws {K : PySem.W.Frag} {H : Hp} {bs : Bs} {xss : List (List V)} (h : RwAt H bs xss) : Rws K H bs xss := by
  induction h with
  | nil => exact .nil
  | cons a _ ih => exact .cons (so_sq a) ih
theorem RwAt.get {H : Hp} {bs : Bs} {xss : List (List V)} (h : RwAt H bs xss) : ∀ {i : Nat} {x : V}, (bs.map fun q => V.ref q.2)[i]? = some x → ∃ b p xs, x = .ref p ∧ xss[i]? = some xs ∧ H p = some (so b xs) := by
  induction h with
  | nil => exact fun e => by simp at e
  | @cons q xs bs xss a _ ih =>
    intro i x e
    cases i with
    | zero =>
      cases e
      exact ⟨q.1, q.2, xs, rfl, rfl, a⟩
    | succ i => exact ih e
/-- a matrix -/
def MAt (H : Hp) (x : V) (xss : List (List V)) : Prop := ∃ b p bs, x = V.ref p ∧ H p = some (so b (bs.map fun q => V.ref q.2)) ∧ RwAt H bs xss
theorem MAt.same {H H' : Hp} {x : V} {xss : List (List V)} (s : Same H H') : MAt H x xss → MAt H' x xss
  | ⟨b, p, bs, e, h, r⟩ => ⟨b, p, bs, e, s _ _ h, r.same s⟩
theorem MAt.on {H H' : Hp} {x : V} {xss : List (List V)} (h : MAt H x xss) (s : Same H H') : MAt H' x xss := h.same s
/-- n rows of n items -/
def Sqr (n : Nat) (xss : List (List V)) : Prop := xss.length = n ∧ ∀ xs ∈ xss, xs.length = n
/-- lists at their places -/
inductive LsAt (H : Hp) : List Addr → List (List V) → Prop
  | nil : LsAt H [] []
  | cons {p : Addr} {xs : List V} {ps : List Addr} {xss : List (List V)} : H p = some (.lst xs) → LsAt H ps xss → LsAt H (p :: ps) (xs :: xss)
theorem LsAt.same {H H' : Hp} (s : Same H H') {ps : List Addr} {xss : List (List V)} (h : LsAt H ps xss) : LsAt H' ps xss := by
  induction h with
  | nil => exact .nil
  | cons a _ ih => exact .cons (s _ _ a) ih
theorem LsAt.on {H H' : Hp} {ps : List Addr} {xss : List (List V)} (h : LsAt H ps xss) (s : ∀ p ∈ ps, H' p = H p) : LsAt H' ps xss := by
  induction h with
  | nil => exact .nil
  | cons a _ ih => exact .cons ((s _ List.mem_cons_self).trans a) (ih fun p hp => s p (List.mem_cons_of_mem _ hp))
theorem LsAt.len {H : Hp} {ps : List Addr} {xss : List (List V)} (h : LsAt H ps xss) : ps.length = xss.length := by
  induction h with
  | nil => rfl
  | cons _ _ ih => rw [List.length_cons, List.length_cons, ih]
theorem LsAt.snoc {H : Hp} {ps : List Addr} {xss : List (List V)} {p : Addr} {xs : List V} (h : LsAt H ps xss) (hp : H p = some (.lst xs)) : LsAt H (ps ++ [p]) (xss ++ [xs]) := by
  induction h with
  | nil => exact .cons hp .nil
  | cons a _ ih => exact .cons a ih
theorem LsAt.rw {H : Hp} {ps : List Addr} {xss : List (List V)} (h : LsAt H ps xss) : RwAt H (ps.map fun p => (true, p)) xss := by
  induction h with
  | nil => exact .nil
  | cons a _ ih => exact .cons a ih
theorem LsAt.get {H : Hp} {ps : List Addr} {xss : List (List V)} (h : LsAt H ps xss) : ∀ {i : Nat} {p : Addr}, ps[i]? = some p → ∃ xs, xss[i]? = some xs ∧ H p = some (.lst xs) := by
  induction h with
  | nil => exact fun e => by simp at e
  | @cons p xs ps xss a _ ih =>
    intro i x e
    cases i with
    | zero =>
      cases e
      exact ⟨xs, rfl, a⟩
    | succ i => exact ih e
/-- a list of new lists, being made at D in what was H0 -/
structure Bld (H0 : Hp) (D : Addr) (xss : List (List V)) (H : Hp) : Prop where
  ex : ∃ ps, H D = some (.lst (ps.map V.ref)) ∧ LsAt H ps xss ∧ (∀ p ∈ ps, H0 p = none ∧ p ≠ D) ∧ ps.Nodup
  same : Same H0 H
  free : H0 D = none
theorem Bld.nil {H0 : Hp} {D : Addr} (h : H0 D = none) : Bld H0 D [] (upd H0 D (.lst [])) :=
  ⟨⟨[], upd_same, .nil, fun p hp => absurd hp List.not_mem_nil, List.nodup_nil⟩, fun b u hu => by rw [upd_ne (ne_of_none hu h)]; exact hu, h⟩
theorem Bld.ext {H0 H H' : Hp} {D : Addr} {xss : List (List V)} (b : Bld H0 D xss H) (s : Same H H') : Bld H0 D xss H' := by
  obtain ⟨ps, h1, h2, h3, h4⟩ := b.ex
  exact ⟨⟨ps, s _ _ h1, h2.same s, h3, h4⟩, b.same.trans s, b.free⟩
/-- one list more, new behind H -/
theorem Bld.add {H0 H H' : Hp} {D q : Addr} {xss : List (List V)} {xs : List V} (b : Bld H0 D xss H) (hq : H q = none) (s : Same H H') (h : H' q = some (.lst xs)) (hz : xss.length < sizeLine) :
    ∃ acc, H' D = some (.lst acc) ∧ acc.length < sizeLine ∧ Bld H0 D (xss ++ [xs]) (upd H' D (.lst (acc ++ [V.ref q]))) := by
  obtain ⟨ps, h1, h2, h3, h4⟩ := b.ex
  have qD : q ≠ D := fun e => by rw [e, h1] at hq; exact nomatch hq
  have hps : ∀ p ∈ ps, p ≠ D := fun p hp => (h3 p hp).2
  refine ⟨ps.map V.ref, s _ _ h1, by rw [List.length_map, h2.len]; exact hz, ⟨⟨ps ++ [q], by rw [List.map_append]; exact upd_same, ?_, fun p hp => ?_, ?_⟩, fun c u hu => ?_, b.free⟩⟩
  · exact ((h2.same s).on fun p hp => upd_ne (hps p hp)).snoc ((upd_ne qD).trans h)
  · rcases List.mem_append.mp hp with hp | hp
    · exact h3 p hp
    · obtain rfl : p = q := by simpa using hp
      refine ⟨?_, qD⟩
      cases e : H0 p with
      | none => rfl
      | some u => rw [b.same _ _ e] at hq; exact nomatch hq
  · refine List.nodup_append.mpr ⟨h4, by simp, fun a ha c hc e => ?_⟩
    obtain rfl : c = q := by simpa using hc
    subst e
    obtain ⟨i, hi⟩ := List.getElem?_of_mem ha
    obtain ⟨ys, _, hy⟩ := h2.get hi
    rw [hy] at hq
    exact nomatch hq
  · have : c ≠ D := fun e => by rw [e, b.free] at hu; exact nomatch hu
    rw [upd_ne this]
    exact s _ _ (b.same _ _ hu)
/-- a list of new lists -/
def NewM (H H' : Hp) (x : V) (xss : List (List V)) : Prop := ∃ D, x = V.ref D ∧ Bld H D xss H'
theorem NewM.same {H H' : Hp} {x : V} {xss : List (List V)} : NewM H H' x xss → Same H H'
  | ⟨_, _, b⟩ => b.same
theorem NewM.mat {H H' : Hp} {x : V} {xss : List (List V)} : NewM H H' x xss → MAt H' x xss
  | ⟨D, e, b⟩ => by
    obtain ⟨ps, h1, h2, _, _⟩ := b.ex
    exact ⟨true, D, ps.map fun p => (true, p), e, by rw [List.map_map]; exact h1, h2.rw⟩
/-- values into a new list -/
structure Vls (H0 : Hp) (D : Addr) (ys : List V) (H : Hp) : Prop where
  at_ : H D = some (.lst ys)
  same : Same H0 H
  free : H0 D = none
theorem Vls.nil {H0 : Hp} {D : Addr} (h : H0 D = none) : Vls H0 D [] (upd H0 D (.lst [])) := ⟨upd_same, fun b u hu => by rw [upd_ne (ne_of_none hu h)]; exact hu, h⟩
theorem Vls.ext {H0 H H' : Hp} {D : Addr} {ys : List V} (b : Vls H0 D ys H) (s : Same H H') : Vls H0 D ys H' := ⟨s _ _ b.at_, b.same.trans s, b.free⟩
theorem Vls.add {H0 H : Hp} {D : Addr} {ys : List V} {y : V} (b : Vls H0 D ys H) (hz : ys.length < sizeLine) : ∃ acc, H D = some (.lst acc) ∧ acc.length < sizeLine ∧ Vls H0 D (ys ++ [y]) (upd H D (.lst (acc ++ [y]))) :=
  ⟨ys, b.at_, hz, upd_same, fun c u hu => by
    have : c ≠ D := fun e => by rw [e, b.free] at hu; exact nomatch hu
    rw [upd_ne this]
    exact b.same _ _ hu, b.free⟩
theorem upd_new {H : Hp} {q : Addr} {o : HO} (h : H q = none) : Same H (upd H q o) := fun b u hu => by
  rw [upd_ne (ne_of_none hu h)]
  exact hu
theorem take_succ {α : Type} {l : List α} {i : Nat} {x : α} (h : l[i]? = some x) : l.take (i + 1) = l.take i ++ [x] := by
  rw [List.take_add_one, h]
  rfl

/-- a walk in a comprehension, whatever is asked of each turn -/
theorem out_it {J : It} {n : Nat} {G : Hp → Prop} {Y : Nat → Hp → V → Hp → Prop} (w : Walk J n G Y) {B : V → Hp → (Hp → Prop) → Prop} {H0 : Hp} {Qd : Hp → Prop} (Pv : Nat → Hp → Prop) (h0 : Pv 0 H0) (hG : ∀ i H, i ≤ n → Pv i H → G H)
    (hs : ∀ i x H H', i < n → Pv i H → Y i H x H' → B x H' (Pv (i + 1))) (hd : ∀ H, Pv n H → Qd H) :
    ∃ W : Nat → Nat → Hp → Prop, (∃ m, W 0 m H0) ∧ ∀ i m H, W i m H → (J.stop i H ∧ Qd H) ∨ (J.go i H ∧ ∃ Nx : Hp → Prop, (∀ H', Nx H' → ∃ m', m' < m ∧ W (i + 1) m' H') ∧ ∀ x H', J.yld i H x H' → B x H' Nx) := by
  refine ⟨fun i m H => m + i = n ∧ Pv i H, ⟨n, rfl, h0⟩, ?_⟩
  rintro i m H ⟨e, p⟩
  have q := hG i H (by omega) p
  by_cases hlt : (i < n)
  · exact .inr ⟨w.goes i H hlt q, Pv (i + 1), fun H' p' => ⟨m - 1, by omega, by omega, p'⟩, fun x H' y => hs i x H H' hlt p (w.yields i H x H' hlt q y)⟩
  · obtain rfl : i = n := by omega
    exact .inl ⟨w.stops H q, hd H p⟩
theorem pi_zipPK {K : PySem.W.Frag} {X : Cx} (h : X.K = K) {tg e e2 : Expr} {ta : TA} {p pos : Pos} (hg : Gl X "zip") (hm : X.mg "zip" = none) (ha : PA X [e, e2] ta)
    (hs : starEach [e, e2] X.env = (false, eval e X.env) :: starEach [e2] X.env := by rfl) (hpl : (backTo pos (starEach [e2] X.env)).any (·.1) = false := by rfl) : PI X tg (.Call (.Name "zip" p) [e, e2] [] pos) (iZipP K ta) := by
  subst h
  exact pi_zipP hg hm ha hs hpl
/-! ### rules within a comprehension, the written part named -/
def rLen (K : PySem.W.Frag) : List V → Hp → VK → Prop := fun xs H Q => ∃ p ys, xs = [V.ref p] ∧ (SqL K H p ys ∨ SqT K H p ys) ∧ Q (.int ys.length) H
def rListOf (K : PySem.W.Frag) : List V → Hp → VK → Prop := fun xs H Q => ∃ p ys, xs = [V.ref p] ∧ (SqL K H p ys ∨ SqT K H p ys) ∧ ∀ l, H l = none → Q (.ref l) (upd H l (.lst ys))
def rTupOf (K : PySem.W.Frag) : List V → Hp → VK → Prop := fun xs H Q => ∃ p ys, xs = [V.ref p] ∧ ((SqL K H p ys ∧ ∀ l, H l = none → Q (.ref l) (upd H l (.tup ys))) ∨ (SqT K H p ys ∧ Q (.ref p) H))
section
variable {K : PySem.W.Frag} {X : Cx} (h : X.K = K)
include h
theorem call_lenK : CallR X (.builtin "len") (rLen K) := by subst h; exact call_len_seq
theorem call_listK : CallR X (.type "list") (rListOf K) := by subst h; exact call_list_of
theorem call_tupleK : CallR X (.type "tuple") (rTupOf K) := by subst h; exact call_tuple_of
theorem cr_minK (hc : X.calm = true) : CallR X (.builtin "min") (rMin K) := by subst h; exact cr_min hc
theorem ix_listK : IxR X (rIxL K) := by subst h; exact ix_list
theorem pg_tupK {es : List Expr} {k : Nat} {pos : Pos} {t : TGs} {n : Nat} (hc : X.calm = true) (hs : PGs X es t) (hn : (assignEach es X.env).length = n := by rfl) (hst : (assignEach es X.env).findIdx? (·.1) = none := by rfl) : PG X (.Tuple es k pos) (gTup K n t) := by
  subst h
  exact pg_tup hc hs hn hst
theorem pi_listK {tg l : Expr} {tl : TE} (hl : PE X l tl) : PI X tg l (iList K tl) := by subst h; exact pi_list hl
theorem pi_sqK {tg l : Expr} {tl : TE} (hl : PE X l tl) : PI X tg l (iSq K tl) := by subst h; exact pi_sq hl
end
end KM

/-! matrices as data: compared and written -/
namespace KM
open PySem PySem.Spec PyProof.Rows L2 Gd Zn
/-- None or an integer that is not too long -/
def Itm (v : V) : Prop := v = .non ∨ ∃ i : Int, v = .int i ∧ i.natAbs < 2 ^ 200
def dI : V → PyData
  | .int i => .int i
  | _ => .none
def dR (xs : List V) : PyData := .list (xs.map dI)
def dM (xss : List (List V)) : PyData := .list (xss.map dR)
theorem dp_row {K : PySem.W.Frag} {H : Hp} : ∀ {xs : List V}, (∀ v ∈ xs, Itm v) → DpAll K H xs (xs.map dI)
  | [], _ => .nil
  | v :: xs, h => .cons (by
      rcases h v List.mem_cons_self with rfl | ⟨i, rfl, _⟩
      · exact .non
      · exact .int i) (dp_row fun u hu => h u (List.mem_cons_of_mem _ hu))
theorem da_row {K : PySem.W.Frag} {H : Hp} : ∀ {xs : List V}, (∀ v ∈ xs, Itm v) → DaL K H xs (xs.map dI)
  | [], _ => .nil
  | v :: xs, h => .cons (by
      rcases h v List.mem_cons_self with rfl | ⟨i, rfl, _⟩
      · exact .non
      · exact .int i) (da_row fun u hu => h u (List.mem_cons_of_mem _ hu))
def All (p : V → Prop) (xss : List (List V)) : Prop := ∀ xs ∈ xss, ∀ v ∈ xs, p v
theorem All.mono {p q : V → Prop} {xss : List (List V)} (h : All p xss) (k : ∀ v, p v → q v) : All q xss := fun xs hx v hv => k v (h xs hx v hv)
theorem dp_rows {K : PySem.W.Frag} {H : Hp} {ps : List Addr} {xss : List (List V)} (h : LsAt H ps xss) (c : All Itm xss) : DpAll K H (ps.map V.ref) (xss.map dR) := by
  induction h with
  | nil => exact .nil
  | @cons p xs ps xss a _ ih => exact .cons (.lst (SqL.of a) (dp_row fun v hv => c _ List.mem_cons_self v hv)) (ih fun xs hx => c xs (List.mem_cons_of_mem _ hx))
theorem da_rows {K : PySem.W.Frag} {H : Hp} {ps : List Addr} {xss : List (List V)} (h : LsAt H ps xss) (c : All Itm xss) : DaL K H (ps.map V.ref) (xss.map dR) := by
  induction h with
  | nil => exact .nil
  | @cons p xs ps xss a _ ih => exact .cons (.lst a (da_row fun v hv => c _ List.mem_cons_self v hv)) (ih fun xs hx => c xs (List.mem_cons_of_mem _ hx))
/-- as lists of lists -/
def LMat (H : Hp) (x : V) (xss : List (List V)) : Prop := ∃ D ps, x = V.ref D ∧ H D = some (.lst (ps.map V.ref)) ∧ LsAt H ps xss
theorem LMat.same {H H' : Hp} {x : V} {xss : List (List V)} (s : Same H H') : LMat H x xss → LMat H' x xss
  | ⟨D, ps, e, h, r⟩ => ⟨D, ps, e, s _ _ h, r.same s⟩
theorem LMat.mat {H : Hp} {x : V} {xss : List (List V)} : LMat H x xss → MAt H x xss
  | ⟨D, ps, e, h, r⟩ => ⟨true, D, ps.map fun p => (true, p), e, by rw [List.map_map]; exact h, r.rw⟩
theorem NewM.lm {H H' : Hp} {x : V} {xss : List (List V)} : NewM H H' x xss → LMat H' x xss
  | ⟨D, e, b⟩ => by
    obtain ⟨ps, h1, h2, _, _⟩ := b.ex
    exact ⟨D, ps, e, h1, h2⟩
theorem LMat.dp {K : PySem.W.Frag} {H : Hp} {x : V} {xss : List (List V)} (c : All Itm xss) : LMat H x xss → Dp K H x (dM xss)
  | ⟨D, ps, e, h, r⟩ => by
    subst e
    exact .lst (SqL.of h) (dp_rows r c)
theorem LMat.da {K : PySem.W.Frag} {H : Hp} {x : V} {xss : List (List V)} (c : All Itm xss) : LMat H x xss → Da K H x (dM xss)
  | ⟨D, ps, e, h, r⟩ => by
    subst e
    exact .lst h (da_rows r c)
theorem dI_lay (v : V) : (dI v).canLay0 = true ∧ (dI v).depth = 0 := by cases v <;> exact ⟨by first | rfl | simp [dI, PyData.canLay0], rfl⟩
theorem shaped_M (xss : List (List V)) : SeqAt.shaped (dM xss) = true := by
  have r1 : ∀ xs : List V, PyData.canLayAll0 (xs.map dI) = true ∧ PyData.depthAll (xs.map dI) = 0 := by
    intro xs
    induction xs with
    | nil => exact ⟨by simp [PyData.canLayAll0], rfl⟩
    | cons v xs ih =>
      obtain ⟨a, b⟩ := dI_lay v
      refine ⟨by simp [PyData.canLayAll0, a, ih.1], ?_⟩
      show max (dI v).depth (PyData.depthAll (xs.map dI)) = 0
      rw [b, ih.2]
      rfl
  have r2 : PyData.canLayAll0 (xss.map dR) = true ∧ PyData.depthAll (xss.map dR) ≤ 1 := by
    induction xss with
    | nil => exact ⟨by simp [PyData.canLayAll0], Nat.zero_le _⟩
    | cons xs xss ih =>
      obtain ⟨a, b⟩ := r1 xs
      refine ⟨by simp [PyData.canLayAll0, ih.1, dR, PyData.canLay0, a], ?_⟩
      show max (PyData.depthAll (xs.map dI) + 1) (PyData.depthAll (xss.map dR)) ≤ 1
      rw [b]
      omega
  unfold SeqAt.shaped
  have e1 : (dM xss).canLay0 = true := by simp [dM, PyData.canLay0, r2.1]
  have e2 : (dM xss).depth ≤ 64 := by
    show PyData.depthAll (xss.map dR) + 1 ≤ 64
    omega
  rw [e1, decide_eq_true e2]
  rfl
theorem log_small {i : Int} (h : i.natAbs < 2 ^ 200) : i.natAbs.log2 < 200 := by
  rcases Nat.eq_zero_or_pos i.natAbs with e | e
  · rw [e]; decide
  · exact (Nat.log2_lt (by omega)).mpr h
theorem row_ok : ∀ {xs : List V}, (∀ v ∈ xs, Itm v) → OkL (xs.map dI) ∧ widL (xs.map dI) ≤ 205 * xs.length ∧ PyData.depthAll (xs.map dI) = 0
  | [], _ => ⟨trivial, Nat.zero_le _, rfl⟩
  | v :: xs, h => by
    obtain ⟨a, b, c⟩ := row_ok (xs := xs) fun u hu => h u (List.mem_cons_of_mem _ hu)
    rcases h v List.mem_cons_self with rfl | ⟨i, rfl, hi⟩
    · refine ⟨⟨trivial, a⟩, ?_, ?_⟩
      · show 4 + 2 + widL (xs.map dI) ≤ _
        rw [List.length_cons]
        omega
      · show max 0 (PyData.depthAll (xs.map dI)) = 0
        rw [c]
        rfl
    · have := log_small hi
      refine ⟨⟨by show i.natAbs.log2 < 1920; omega, a⟩, ?_, ?_⟩
      · show i.natAbs.log2 + 3 + 2 + widL (xs.map dI) ≤ _
        rw [List.length_cons]
        omega
      · show max 0 (PyData.depthAll (xs.map dI)) = 0
        rw [c]
        rfl
theorem mat_ok {n : Nat} (hn : n ≤ 12) : ∀ {xss : List (List V)}, (∀ xs ∈ xss, xs.length ≤ n) → All Itm xss → OkL (xss.map dR) ∧ widL (xss.map dR) ≤ 3000 * xss.length ∧ PyData.depthAll (xss.map dR) ≤ 1
  | [], _, _ => ⟨trivial, Nat.zero_le _, Nat.zero_le _⟩
  | xs :: xss, l, h => by
    obtain ⟨a, b, c⟩ := mat_ok hn (xss := xss) (fun u hu => l u (List.mem_cons_of_mem _ hu)) fun u hu => h u (List.mem_cons_of_mem _ hu)
    obtain ⟨a1, b1, c1⟩ := row_ok (h xs List.mem_cons_self)
    have l1 := l xs List.mem_cons_self
    refine ⟨⟨a1, a⟩, ?_, ?_⟩
    · show widL (xs.map dI) + 2 + 2 + widL (xss.map dR) ≤ _
      rw [List.length_cons]
      omega
    · show max (PyData.depthAll (xs.map dI) + 1) (PyData.depthAll (xss.map dR)) ≤ 1
      rw [c1]
      omega
/-- written -/
theorem M_ok {n : Nat} {xss : List (List V)} (hn : n ≤ 12) (sq : Sqr n xss) (h : All Itm xss) : Ok1 (dM xss) ∧ wid (dM xss) ≤ 40000 ∧ (dM xss).depth ≤ 2 := by
  obtain ⟨a, b, c⟩ := mat_ok hn (fun xs hx => by rw [sq.2 xs hx]; exact Nat.le_refl _) h
  refine ⟨a, ?_, ?_⟩
  · show widL (xss.map dR) + 2 ≤ _
    rw [sq.1] at b
    omega
  · show PyData.depthAll (xss.map dR) + 1 ≤ 2
    omega
end KM

/-! the pool at p, and all the data beside it -/
namespace KM
open PySem L2 Gd Zn
/-- all but what stands at p -/
def Gp (H : Hp) (p : Addr) : Hp := fun a => if a = p then none else H a
structure Pool (G H : Hp) (p : Addr) : Prop where
  b : BoxAt H p
  s : Same G H
  n : G p = none
theorem gp_ne {H : Hp} {p a : Addr} (h : a ≠ p) : Gp H p a = H a := if_neg h
theorem gp_at {H : Hp} {p a : Addr} {o : HO} (h : a ≠ p) (e : H a = some o) : Gp H p a = some o := (gp_ne h).trans e
theorem gp_same {H : Hp} {p : Addr} : Same (Gp H p) H := fun a o e => by
  by_cases c : (a = p)
  · subst c
    rw [show Gp H a a = none from if_pos rfl] at e
    exact nomatch e
  · rw [gp_ne c] at e
    exact e
theorem Pool.take {G H H' : Hp} {p : Addr} (P : Pool G H p) (t : Turned H H' p) : Pool G H' p :=
  ⟨t.1, fun a o e => t.at (fun x => by rw [x, P.n] at e; exact nomatch e) (P.s a o e), P.n⟩
theorem Pool.go {G H H' : Hp} {p : Addr} (P : Pool G H p) (s : Same H H') : Pool G H' p := by
  obtain ⟨x, y, z, h, r⟩ := P.b
  exact ⟨⟨x, y, z, s _ _ h, r⟩, P.s.trans s, P.n⟩
/-- all that stands by now -/
theorem Pool.all {G H : Hp} {p : Addr} (P : Pool G H p) : Pool (Gp H p) H p ∧ Same G (Gp H p) :=
  ⟨⟨P.b, gp_same, if_pos rfl⟩, fun a o e => gp_at (fun x => by rw [x, P.n] at e; exact nomatch e) (P.s a o e)⟩
theorem Pool.ne {G H : Hp} {p a : Addr} (P : Pool G H p) (h : H a = none) : a ≠ p := fun e => by
  obtain ⟨o, ho⟩ := P.b.some
  rw [e, ho] at h
  exact nomatch h
theorem Pool.new {G H : Hp} {p a : Addr} {o : HO} (P : Pool G H p) (h : H a = none) : Pool (upd G a o) (upd H a o) p := by
  have hne := P.ne h
  refine ⟨P.b.upd h, fun c u e => ?_, by rw [upd_ne hne.symm]; exact P.n⟩
  by_cases x : (c = a)
  · subst x
    rw [upd_same] at e ⊢
    exact e
  · rw [upd_ne x] at e ⊢
    exact P.s c u e
theorem Pool.fresh {G H : Hp} {p a : Addr} (P : Pool G H p) (h : H a = none) : G a = none := by
  cases e : G a with
  | none => rfl
  | some u => rw [P.s _ _ e] at h; exact nomatch h
theorem Pool.put {G H : Hp} {p a : Addr} {o : HO} (P : Pool G H p) (hp : a ≠ p) (h : G a = none) : Pool G (upd H a o) p := by
  obtain ⟨x, y, z, e, r⟩ := P.b
  refine ⟨⟨x, y, z, by rw [upd_ne hp.symm]; exact e, r⟩, fun c u e => ?_, P.n⟩
  have : c ≠ a := fun x => by rw [x, h] at e; exact nomatch e
  rw [upd_ne this]
  exact P.s c u e
/-- what stands at a is counted to the data -/
theorem Pool.own {G H : Hp} {p a : Addr} {o : HO} (P : Pool G H p) (hp : a ≠ p) (h : G a = none) (e : H a = some o) : Pool (upd G a o) H p ∧ Same G (upd G a o) := by
  refine ⟨⟨P.b, fun c u hc => ?_, by rw [upd_ne hp.symm]; exact P.n⟩, upd_new h⟩
  by_cases x : (c = a)
  · subst x
    rw [upd_same] at hc
    rw [e]
    exact hc
  · rw [upd_ne x] at hc
    exact P.s c u hc
theorem NewM.gp {G H H' : Hp} {p : Addr} {x : V} {xss : List (List V)} (P : Pool G H p) : NewM H H' x xss → LMat (Gp H' p) x xss
  | ⟨D, e, b⟩ => by
    obtain ⟨ps, h1, h2, h3, _⟩ := b.ex
    exact ⟨D, ps, e, gp_at (P.ne b.free) h1, h2.on fun q hq => gp_ne (P.ne (h3 q hq).1)⟩
end KM

/-! patterns: lists of letters and of repetitions; their lengths and texts; in the heap, as lists or as tuples -/
namespace KP
open PySem PySem.Spec PyProof.Rows L2 Gd Zn KM
inductive Pt where
  | ch (c : Nat)
  | rep (l : List Pt)
mutual
def Pt.dep : Pt → Nat
  | .ch _ => 0
  | .rep l => deps l + 1
def deps : List Pt → Nat
  | [] => 0
  | p :: l => max p.dep (deps l)
end
mutual
def Pt.nod : Pt → Nat
  | .ch _ => 1
  | .rep l => nods l + 1
def nods : List Pt → Nat
  | [] => 0
  | p :: l => p.nod + nods l
end
mutual
def Pt.Wf : Pt → Prop
  | .ch c => low c = true
  | .rep l => 1 ≤ l.length ∧ Wfs l
def Wfs : List Pt → Prop
  | [] => True
  | p :: l => p.Wf ∧ Wfs l
end
mutual
/-- the length of the text -/
def plen (n : Int) : Pt → Int
  | .ch _ => 1
  | .rep l => n * plens n l
def plens (n : Int) : List Pt → Int
  | [] => 0
  | p :: l => plen n p + plens n l
end
mutual
/-- the text -/
def ptx (n : Int) : Pt → Str
  | .ch c => ⟨#[c]⟩
  | .rep l => repS (Txt.join "" (ptl n l)) n
def ptl (n : Int) : List Pt → List Str
  | [] => []
  | p :: l => ptx n p :: ptl n l
end
def ptxs (n : Int) (l : List Pt) : Str := Txt.join "" (ptl n l)
abbrev sRep : Str := "repeat"
mutual
inductive PtAt (H : Hp) (b : Bool) : V → Pt → Prop
  | ch {c : Nat} : PtAt H b (.str ⟨#[c]⟩) (.ch c)
  | rep {a q : Addr} {vs : List V} {l : List Pt} : H a = some (.tup [.str sRep, .ref q]) → H q = some (so b vs) → PtsAt H b vs l → PtAt H b (.ref a) (.rep l)
inductive PtsAt (H : Hp) (b : Bool) : List V → List Pt → Prop
  | nil : PtsAt H b [] []
  | cons {v : V} {vs : List V} {p : Pt} {l : List Pt} : PtAt H b v p → PtsAt H b vs l → PtsAt H b (v :: vs) (p :: l)
end
/-- a pattern: its list or tuple at an address -/
def LiAt (H : Hp) (b : Bool) (v : V) (l : List Pt) : Prop := ∃ q vs, v = .ref q ∧ H q = some (so b vs) ∧ PtsAt H b vs l
section
variable {H H' : Hp} {b : Bool}
mutual
theorem PtAt.same (e : Same H H') : ∀ {v : V} {p : Pt}, PtAt H b v p → PtAt H' b v p
  | _, _, .ch => .ch
  | _, _, .rep h g t => .rep (e _ _ h) (e _ _ g) (PtsAt.same e t)
theorem PtsAt.same (e : Same H H') : ∀ {vs : List V} {l : List Pt}, PtsAt H b vs l → PtsAt H' b vs l
  | _, _, .nil => .nil
  | _, _, .cons h r => .cons (PtAt.same e h) (PtsAt.same e r)
end
theorem LiAt.same (e : Same H H') {v : V} {l : List Pt} : LiAt H b v l → LiAt H' b v l
  | ⟨q, vs, ev, h, r⟩ => ⟨q, vs, ev, e _ _ h, r.same e⟩
theorem PtsAt.length : ∀ {vs : List V} {l : List Pt}, PtsAt H b vs l → vs.length = l.length
  | _, _, .nil => rfl
  | _, _, .cons _ r => by rw [List.length_cons, List.length_cons, r.length]
theorem PtsAt.at : ∀ {vs : List V} {l : List Pt} {i : Nat} {v : V}, PtsAt H b vs l → vs[i]? = some v → ∃ p, l[i]? = some p ∧ PtAt H b v p
  | _, _, 0, _, .cons h _, e => by
    injection e with e
    subst e
    exact ⟨_, rfl, h⟩
  | _, _, i + 1, _, .cons _ r, e => PtsAt.at (i := i) r e
theorem PtsAt.snoc : ∀ {vs : List V} {l : List Pt} {v : V} {p : Pt}, PtsAt H b vs l → PtAt H b v p → PtsAt H b (vs ++ [v]) (l ++ [p])
  | _, _, _, _, .nil, h => .cons h .nil
  | _, _, _, _, .cons g r, h => .cons g (PtsAt.snoc r h)
theorem PtsAt.rep {v : V} {p : Pt} (h : PtAt H b v p) : ∀ n : Nat, PtsAt H b (List.replicate n v) (List.replicate n p)
  | 0 => .nil
  | n + 1 => .cons h (PtsAt.rep h n)
end
/-! ### measures -/
theorem deps_at : ∀ {l : List Pt} {i : Nat} {p : Pt}, l[i]? = some p → p.dep ≤ deps l
  | [], _, _, e => nomatch e
  | u :: l, 0, t, e => by
    injection e with e
    subst e
    exact Nat.le_max_left _ _
  | u :: l, i + 1, t, e => Nat.le_trans (deps_at (l := l) (i := i) e) (Nat.le_max_right _ _)
theorem nods_at : ∀ {l : List Pt} {i : Nat} {p : Pt}, l[i]? = some p → p.nod ≤ nods l
  | [], _, _, e => nomatch e
  | u :: l, 0, t, e => by
    injection e with e
    subst e
    exact Nat.le_add_right _ _
  | u :: l, i + 1, t, e => Nat.le_trans (nods_at (l := l) (i := i) e) (Nat.le_add_left _ _)
theorem wfs_at : ∀ {l : List Pt} {i : Nat} {p : Pt}, Wfs l → l[i]? = some p → p.Wf
  | [], _, _, _, e => nomatch e
  | u :: l, 0, t, h, e => by
    injection e with e
    subst e
    exact h.1
  | u :: l, i + 1, t, h, e => wfs_at (l := l) (i := i) h.2 e
theorem nod_pos : ∀ p : Pt, 1 ≤ p.nod
  | .ch _ => Nat.le_refl _
  | .rep _ => Nat.le_add_left _ _
theorem nods_len : ∀ l : List Pt, l.length ≤ nods l
  | [] => Nat.le_refl _
  | p :: l => by
    have := nod_pos p
    have := nods_len l
    show l.length + 1 ≤ p.nod + nods l
    omega
theorem nods_app : ∀ l m : List Pt, nods (l ++ m) = nods l + nods m
  | [], m => by show nods m = 0 + nods m; omega
  | p :: l, m => by
    have := nods_app l m
    show p.nod + nods (l ++ m) = p.nod + nods l + nods m
    omega
theorem deps_app : ∀ l m : List Pt, deps (l ++ m) = max (deps l) (deps m)
  | [], m => by show deps m = max 0 (deps m); omega
  | p :: l, m => by
    have := deps_app l m
    show max p.dep (deps (l ++ m)) = max (max p.dep (deps l)) (deps m)
    omega
theorem wfs_app : ∀ {l m : List Pt}, Wfs l → Wfs m → Wfs (l ++ m)
  | [], _, _, h => h
  | p :: l, m, h, g => ⟨h.1, wfs_app (l := l) h.2 g⟩
theorem plens_app (n : Int) : ∀ l m : List Pt, plens n (l ++ m) = plens n l + plens n m
  | [], m => by show plens n m = 0 + plens n m; omega
  | p :: l, m => by
    have := plens_app n l m
    show plen n p + plens n (l ++ m) = plen n p + plens n l + plens n m
    omega
theorem ptl_app (n : Int) : ∀ l m : List Pt, ptl n (l ++ m) = ptl n l ++ ptl n m
  | [], m => rfl
  | p :: l, m => by
    show ptx n p :: ptl n (l ++ m) = ptx n p :: (ptl n l ++ ptl n m)
    rw [ptl_app n l m]
theorem ptl_len (n : Int) : ∀ l : List Pt, (ptl n l).length = l.length
  | [] => rfl
  | p :: l => by
    show (ptl n l).length + 1 = l.length + 1
    rw [ptl_len n l]
theorem ptl_at (n : Int) : ∀ {l : List Pt} {i : Nat} {p : Pt}, l[i]? = some p → (ptl n l)[i]? = some (ptx n p)
  | [], _, _, e => nomatch e
  | u :: l, 0, t, e => by
    injection e with e
    subst e
    rfl
  | u :: l, i + 1, t, e => ptl_at n (l := l) (i := i) e
theorem plens_take (n : Int) {l : List Pt} {i : Nat} {p : Pt} (e : l[i]? = some p) : plens n (l.take (i + 1)) = plens n (l.take i) + plen n p := by
  rw [take_succ e, plens_app]
  show plens n (l.take i) + (plen n p + 0) = _
  omega
mutual
theorem plen_pos {n : Int} (hn : 1 ≤ n) : ∀ p : Pt, 0 ≤ plen n p
  | .ch _ => by show (0 : Int) ≤ 1; decide
  | .rep l => Int.mul_nonneg (by omega) (plens_pos hn l)
theorem plens_pos {n : Int} (hn : 1 ≤ n) : ∀ l : List Pt, 0 ≤ plens n l
  | [] => Int.le_refl _
  | p :: l => Int.add_nonneg (plen_pos hn p) (plens_pos hn l)
end
theorem plen_at {n : Int} (hn : 1 ≤ n) : ∀ {l : List Pt} {i : Nat} {p : Pt}, l[i]? = some p → plen n p ≤ plens n l
  | [], _, _, e => nomatch e
  | u :: l, 0, t, e => by
    injection e with e
    subst e
    have := plens_pos hn l
    show plen n u ≤ plen n u + plens n l
    omega
  | u :: l, i + 1, t, e => by
    have h1 := plen_at hn (l := l) (i := i) e
    have h2 := plen_pos hn u
    show plen n t ≤ plen n u + plens n l
    omega
theorem plens_le_rep {n : Int} (hn : 1 ≤ n) (l : List Pt) : plens n l ≤ plen n (.rep l) := by
  have h := plens_pos hn l
  have := Int.mul_le_mul_of_nonneg_right hn h
  show plens n l ≤ n * plens n l
  omega
theorem repS_len (x : Str) (n : Int) : (repS x n).length = n.toNat * x.length := by
  rw [Gd.len_list, repS_list, List.length_flatten, List.map_replicate, List.sum_replicate_nat, Gd.len_list]
theorem joinE_len (l : List Str) : (Txt.join "" l).length = (l.map (·.length)).sum := by rw [join_str, join_empty_len]
mutual
theorem ptx_len {n : Int} (hn : 1 ≤ n) : ∀ p : Pt, ((ptx n p).length : Int) = plen n p
  | .ch c => rfl
  | .rep l => by
    have h := ptl_sum hn l
    show (((repS (Txt.join "" (ptl n l)) n).length : Nat) : Int) = n * plens n l
    rw [repS_len, joinE_len, Int.natCast_mul, h, Int.toNat_of_nonneg (by omega)]
theorem ptl_sum {n : Int} (hn : 1 ≤ n) : ∀ l : List Pt, ((((ptl n l).map (·.length)).sum : Nat) : Int) = plens n l
  | [] => rfl
  | p :: l => by
    have h1 := ptx_len hn p
    have h2 := ptl_sum hn l
    show (((ptx n p).length + ((ptl n l).map (·.length)).sum : Nat) : Int) = plen n p + plens n l
    rw [Int.natCast_add, h1, h2]
end
theorem ptxs_len {n : Int} (hn : 1 ≤ n) (l : List Pt) : ((ptxs n l).length : Int) = plens n l := by
  unfold ptxs
  rw [joinE_len, ptl_sum hn]
/-! ### as data -/
mutual
def dPt : Pt → PyData
  | .ch c => .str ⟨#[c]⟩
  | .rep l => .tuple [.str sRep, .list (dPts l)]
def dPts : List Pt → List PyData
  | [] => []
  | p :: l => dPt p :: dPts l
end
section
variable {K : PySem.W.Frag} {H : Hp}
mutual
theorem PtAt.da : ∀ {v : V} {p : Pt}, PtAt H true v p → Da K H v (dPt p)
  | _, _, .ch => .str _
  | _, _, .rep h g t => .tup (SqT.of h) (.cons (.str _) (.cons (.lst g (PtsAt.da t)) .nil))
theorem PtsAt.da : ∀ {vs : List V} {l : List Pt}, PtsAt H true vs l → DaL K H vs (dPts l)
  | _, _, .nil => .nil
  | _, _, .cons h r => .cons (PtAt.da h) (PtsAt.da r)
end
theorem LiAt.da {v : V} {l : List Pt} : LiAt H true v l → Da K H v (.list (dPts l))
  | ⟨q, vs, e, h, r⟩ => by
    subst e
    exact .lst h r.da
end
theorem low_small {c : Nat} (h : low c = true) : 97 ≤ c ∧ c ≤ 122 := by
  unfold low at h
  rw [Bool.and_eq_true, decide_eq_true_eq, decide_eq_true_eq] at h
  exact h
mutual
theorem dPt_ok : ∀ {p : Pt}, p.Wf → Ok1 (dPt p) ∧ wid (dPt p) + 2 ≤ 80 * p.nod ∧ (dPt p).depth ≤ 2 * p.dep
  | .ch c, h => by
    have := low_small h
    refine ⟨fun d hd => ?_, ?_, Nat.le_refl _⟩
    · have : d = c := by simpa using hd
      have : (16 : Nat) ^ 8 = 4294967296 := by decide
      omega
    · show 10 * 1 + 2 + 2 ≤ 80 * 1
      decide
  | .rep l, h => by
    obtain ⟨a, b, c⟩ := dPts_ok (l := l) h.2
    refine ⟨⟨(Tx.of (n := 10) (by decide +kernel) : Tx 10 sRep).big, a, trivial⟩, ?_, ?_⟩
    · have e : sRep.length = 6 := by decide +kernel
      show (10 * sRep.length + 2) + 2 + ((widL (dPts l) + 2) + 2 + 0) + 3 + 2 ≤ 80 * (nods l + 1)
      omega
    · show max 0 (max (PyData.depthAll (dPts l) + 1) 0) + 1 ≤ 2 * (deps l + 1)
      omega
theorem dPts_ok : ∀ {l : List Pt}, Wfs l → OkL (dPts l) ∧ widL (dPts l) ≤ 80 * nods l ∧ PyData.depthAll (dPts l) ≤ 2 * deps l
  | [], _ => ⟨trivial, Nat.le_refl _, Nat.le_refl _⟩
  | p :: l, h => by
    obtain ⟨a, b, c⟩ := dPt_ok h.1
    obtain ⟨a2, b2, c2⟩ := dPts_ok (l := l) h.2
    have := nod_pos p
    refine ⟨⟨a, a2⟩, ?_, ?_⟩
    · show wid (dPt p) + 2 + widL (dPts l) ≤ 80 * (p.nod + nods l)
      omega
    · show max (dPt p).depth (PyData.depthAll (dPts l)) ≤ 2 * max p.dep (deps l)
      omega
end
theorem li_ok {l : List Pt} (h : Wfs l) : Ok1 (.list (dPts l)) ∧ wid (.list (dPts l)) ≤ 80 * nods l + 2 ∧ (PyData.list (dPts l)).depth ≤ 2 * deps l + 1 := by
  obtain ⟨a, b, c⟩ := dPts_ok h
  exact ⟨a, by show widL (dPts l) + 2 ≤ _; omega, by show PyData.depthAll (dPts l) + 1 ≤ _; omega⟩
/-- a good pattern of at most so many nodes, at most so deep -/
structure Good (m d : Nat) (l : List Pt) : Prop where
  ne : 1 ≤ l.length
  wf : Wfs l
  dp : deps l ≤ d
  nd : nods l ≤ m
theorem Good.up {m d m' d' : Nat} {l : List Pt} (g : Good m d l) (h : m ≤ m') (h2 : d ≤ d') : Good m' d' l := ⟨g.ne, g.wf, Nat.le_trans g.dp h2, Nat.le_trans g.nd h⟩
theorem Good.len {m d : Nat} {l : List Pt} (g : Good m d l) : l.length ≤ m := Nat.le_trans (nods_len l) g.nd
/-- the part of a repetition -/
theorem Good.part {m d i : Nat} {l k : List Pt} (g : Good m d l) (e : l[i]? = some (.rep k)) : Good m (d - 1) k ∧ 1 ≤ d := by
  have h1 := wfs_at g.wf e
  have h2 := deps_at e
  have h3 := nods_at e
  have e2 : (Pt.rep k).dep = deps k + 1 := rfl
  have e3 : (Pt.rep k).nod = nods k + 1 := rfl
  have := g.dp
  have := g.nd
  exact ⟨⟨h1.1, h1.2, by omega, by omega⟩, by omega⟩
theorem Good.letter {m d i : Nat} {l : List Pt} {c : Nat} (g : Good m d l) (e : l[i]? = some (.ch c)) : low c = true := wfs_at g.wf e
/-- repr of data of some depth -/
theorem call_reprD {X : Cx} (hc : Clean X.A) (hS : SysIn X.base) (hu : X.A.units + 230 < cLine) : CallR X (.builtin "repr") (fun xs H Q => ∃ x d, xs = [x] ∧ Da X.K H x d ∧ Ok1 d ∧ wid d ≤ sizeLine ∧ d.depth ≤ 220 ∧ Q (.str d.shown) H) := by
  intro pins s σ H xs us Q I r h
  obtain ⟨x, d, rfl, hd, ok, hz, hdp, q⟩ := h
  obtain ⟨u, rfl, ru⟩ := vals1 r
  have hz' : d.shown.length ≤ sizeLine := Nat.le_trans (wid_le d ok) hz
  obtain ⟨as, hr, hf⟩ := Da.reads I hS hd ru
  have fin : ∀ (t tk : Tok) (h' : Heap), (∀ b o, s.heap.get? b = some o → h'.get? b = some o) → EP X pins σ Q (.str d.shown t) { s with heap := h', toks := tk } :=
    fun t tk h' k => ⟨.str d.shown, H, I.kept k, ⟨t, rfl⟩, q⟩
  cases hd with
  | non =>
    cases ru
    exact PySem.P.repr_of_none (fin _ _ s.heap fun _ _ e => e)
  | bl b =>
    cases ru
    exact PySem.P.repr_of_bool (fin _ _ s.heap fun _ _ e => e)
  | int i =>
    obtain ⟨t, rfl⟩ := ru
    exact PySem.P.repr_of_int ok (fin _ _ s.heap fun _ _ e => e)
  | str y =>
    obtain ⟨t, rfl⟩ := ru
    exact PySem.P.repr_of_str (fin _ _ s.heap fun _ _ e => e) hz'
  | lst h1 h2 =>
    cases ru
    exact repr_of_reads' hr (ok_show _ ok) (fun _ => hf) hc (by omega) (fun _ _ e => e) (fun h' u tk k => fin u tk h' k) hz'
  | tup h1 h2 =>
    cases ru
    exact repr_of_reads' hr (ok_show _ ok) (fun _ => hf) hc (by omega) (fun _ _ e => e) (fun h' u tk k => fin u tk h' k) hz'
  | dct h1 h2 =>
    cases ru
    exact repr_of_reads' hr (ok_show _ ok) (fun _ => hf) hc (by omega) (fun _ _ e => e) (fun h' u tk k => fin u tk h' k) hz'
theorem ix_tupK {K : PySem.W.Frag} {X : Cx} (h : X.K = K) : IxR X (rIxT K) := by subst h; exact ix_tup
theorem room230 {k : Nat} {A : Around} (r : Room (k + 2) A) : A.units + 230 < cLine := by
  have := r.un
  omega
end KP

namespace PySem
namespace EzIndex
open PySem.W PySem.Calls PyProof.Rows PySem.HandSPX
/-! ### the text of __init__ -/
def iA (p1 p2 : Pos) : Arguments := { posonlyargs := [], args := [{ arg := "self", annotation := none, pos := p1 }, { arg := "index", annotation := none, pos := p2 }], vararg := none, kwonlyargs := [], kw_defaults := [], kwarg := none, defaults := [] }
def iB (q1 q2 q3 q4 : Pos) : List Stmt := [.Assign [.Attribute (.Name "self" q1) "index" q2] (.Name "index" q3) q4]
def iS : Scope := { kind := .function, names := [(PySem.Str.ofString "self", .local), (PySem.Str.ofString "index", .local)], isGenerator := false, isCoroutine := false, more := [] }
/-- what the written part says of Low, at C, and of its __init__, at fI -/
structure LowTxt (K : Frag) (mg : Str → Option Value) (nm : Str) (qn : String) (C fI : Addr) : Prop where
  gC : mg nm = some (.ref C)
  cls : ∃ nmC q N bs bm sn sub ab col dd k0 k1 k2 k3 k5, K.lookup C = some (excClassObj nmC q C N bs bm true sn sub ab col dd k0 k1 k2 k3 k5 "ValueError.__new__") ∧ refsVE bm = true
  sa : findIn K (.ref C) "__setattr__" = some (some (.builtin "object.__setattr__"))
  ga : findIn K (.ref C) "__getattribute__" = some (some (.builtin "BaseException.__getattribute__"))
  gg : findIn K (.ref C) "__getattr__" = some none
  noN : findIn K (.ref C) "index" = some none
  iC : findIn K (.ref C) "__init__" = some (some (.ref fI))
  tC : typeIn K (.ref fI) = some (.type "function")
  kC : keepIn K (.ref C) = true
  exC : subIn K (.ref C) (.type "BaseException") = some true
  tyC : typeIn K (.ref C) = some (.type "type")
  hdC : hasDictIn K C = true
  te : exmOne K (.ref C) (.ref C) = some true
  fn : ∃ (oc : Value) (od : Option Addr) (doc pm : Value) (an : Option Addr) (cdv ct : Value) (osl : Array (Option Value)) (p1 p2 q1 q2 q3 q4 : Pos),
    K.lookup fI = some ⟨oc, od, .func (fnOf "__init__" qn (iA p1 p2) (iB q1 q2 q3 q4) iS .none .none doc pm an cdv ct), osl⟩ ∧ codeIn K cdv qn = true
theorem one_size (v : Value) : [v].length ≤ sizeLine := by
  rw [sizeLine_eq]
  exact (by decide : 1 ≤ 16777216)
theorem kept_but {K : Frag} {h h' : Heap} {x : Addr} (X : K.In h) (hx : K.lookup x = none) (k : ∀ b o, b ≠ x → h.get? b = some o → h'.get? b = some o) : K.In h' := fun a o e =>
  k a o (fun z => by rw [z, hx] at e; cases e) (X a o e)
theorem ldC {M : Model} {s : Shared} {name : Str} {scope : Scope} {L a : Addr} {cd : Value} {m : Str → Option Value} {x : Str} {pos : Pos} {v : Value} {Q : Value → Shared → Prop} {A : Around} {E : Value → Shared → Prop} (hn : s.heap.Ns L m) (hv : m x = some v) (h : Q v s)
    (hk : scope.kind = .function := by rfl) (hl : (envOfC name scope L a cd).kindOf x = some .local := by rfl) (hd : (x == ("__debug__" : Str)) = false := by decide) :
    wpAny M A (eval (.Name x pos) (envOfC name scope L a cd)) Q E s := wpAny_Name (wpAny_loadName_local hk hl hn hv h) hd
/-- what __init__ leaves of a fresh exception at x -/
structure InitEnd (h h' : Heap) (x C dx t1 : Addr) (v : Value) : Prop where
  keep : ∀ b o, b ≠ x → h.get? b = some o → h'.get? b = some o
  obj : h'.get? x = some { cls := .ref C, dict := some dx, data := .fields #[.ref t1, .none, .none, .none, .bool false, .none] }
  dbig : h.objs.size ≤ dx
  dne : dx ≠ x
  ns : h'.Ns1 dx (fun y => if y = "index" then some v else none)
/-- a made Low -/
structure OwnMade (h h' : Heap) (e C d : Addr) (v : Value) : Prop where
  keep : ∀ b o, h.get? b = some o → h'.get? b = some o
  new : h.objs.size ≤ e
  obj : ∃ oe vs, h'.get? e = some oe ∧ oe.cls = .ref C ∧ oe.dict = some d ∧ oe.data = .fields vs ∧ vs[1]? = some .none
  dbig : h.objs.size ≤ d
  dne : d ≠ e
  ns : h'.Ns1 d (fun y => if y = "index" then some v else none)
section
variable {prog : Program} {w : World} {A : Around} {E : Value → Shared → Prop} {R : Result → Shared → Prop} {s : Shared} {K : Frag} {mg : Str → Option Value} {nm : Str} {qn : String} {C fI : Addr}
theorem low_init (T : LowTxt K mg nm qn C fI) {x t0 : Addr} {v : Value} (X : K.In s.heap) (hlim : s.heap.NoLimit) (hx : s.heap.get? x = some (excO C t0)) (hnx : K.lookup x = none) (hroom : A.depth < recursionLimit)
    (hq : ∀ h' tk dx, InitEnd s.heap h' x C dx t0 v → R (.ok (.ret .none)) { s with heap := h', toks := tk }) :
    codeAny (model prog w) A (.call (.ref fI) ⟨[.ref x, v], []⟩) R s := by
  obtain ⟨oc, od, doc, pm, an, cdv, ct, osl, p1, p2, q1, q2, q3, q4, ho, hcd⟩ := T.fn
  obtain ⟨nmC, q, N, bs, bm, sn, sub, ab, col, dd, k0, k1, k2, k3, k5, hC, hbm⟩ := T.cls
  have hcl : clsIn K C = some { name := nmC, bases := bs, mro := .ref C :: bm, ns := N, qualname := q, hasDict := true, slotNames := sn, subclasses := sub, abstract := ab, collection := col, hasDel := false } := by unfold clsIn; rw [hC] <;> rfl
  refine Att.call_fn (binds := [("self", .ref x), ("index", v)]) X hlim ho hcd hroom (BindsTo.of_eq (by first | rfl | with_unfolding_all rfl)) (by first | rfl | decide | with_unfolding_all rfl) (fun s₁ IC => ?_) rfl rfl rfl
  obtain ⟨h₁, tk₁, rfl⟩ := IC.toInCall.same
  have k : ∀ b o, s.heap.get? b = some o → h₁.get? b = some o := IC.toInCall.keep
  have hn := IC.toInCall.ns
  have hxL : s.heap.objs.size ≠ x := Nat.ne_of_gt (Heap.lt_size hx)
  have X₁ : K.In h₁ := X.keeps k
  have hx₁ := k _ _ hx
  -- self.by = by
  show wpAny _ _ (execs _ _) _ _ _
  refine wpAny_execs_cons (plainObj_wpAny_Assign_Attribute ?_)
  refine ldC (v := v) hn (by first | rfl | with_unfolding_all rfl | kernel_rfl) (ldC (v := .ref x) hn (by first | rfl | with_unfolding_all rfl | kernel_rfl) ?_)
  refine set_plain X₁ (ox := excO C t0) (od := none) ⟨hx₁, rfl, rfl, trivial⟩ T.sa ?_
  refine exc_osa X₁ hx₁ hcl (show refsVE (.ref C :: bm) = true from hbm) rfl T.noN (fun h₃ tk₃ dx k₃ dn dne hx₃ hn₃ => ?_)
  show wpAny _ _ (execs _ _) _ _ _
  have z : s.heap.objs.size < h₁.objs.size := hn.lt
  exact wpAny_execs_nil (hq h₃ tk₃ dx ⟨fun b o hb e => k₃ b o hb (k b o e), hx₃, Nat.le_of_lt (Nat.lt_of_lt_of_le z dn), dne, hn₃⟩)
theorem low_made (T : LowTxt K mg nm qn C fI) {v : Value} (X : K.In s.heap) (hlim : s.heap.NoLimit) (hroom : A.depth + 1 < recursionLimit)
    (hq : ∀ h' tk e d, OwnMade s.heap h' e C d v → R (.ok (.ret (.ref e))) { s with heap := h', toks := tk }) :
    codeAny (model prog w) A (.call (.ref C) ⟨[v], []⟩) R s := by
  obtain ⟨nmC, q, N, bs, bm, sn, sub, ab, col, dd, k0, k1, k2, k3, k5, hC, hbm⟩ := T.cls
  obtain ⟨hp, g, dr, tk, os⟩ := s
  have k : ∀ b o, hp.get? b = some o → ((hp.push (kdv_tup [v])).push (excO C hp.objs.size)).get? b = some o := fun b o e => Heap.get?_push_of_some _ (Heap.get?_push_of_some _ e)
  have hget : ((hp.push (kdv_tup [v])).push (excO C hp.objs.size)).get? (hp.objs.size + 1) = some (excO C hp.objs.size) := by heap_get
  have hnx : K.lookup (hp.objs.size + 1) = none := by
    cases e : K.lookup (hp.objs.size + 1) with
    | none => rfl
    | some o =>
      have z : hp.get? (hp.objs.size + 1) = some o := X _ _ e
      exact absurd (Nat.lt_of_succ_lt (Heap.lt_size z)) (Nat.lt_irrefl _)
  refine call_own F.excBase_ValueError (fun X => refsVE_contains X bm hbm) (X _ _ hC) (looks_findIn X T.iC) (fun self => bind_fn X self T.tC) (one_size v) ?_
  refine low_init (s := ⟨(hp.push (kdv_tup [v])).push (excO C hp.objs.size), g, dr, tk, os⟩) T (X.keeps k) (hlim.keeps k) hget hnx ?_ fun h' tk' dx ⟨k', hx, dn, dne, hns⟩ => ?_
  · show A.depth + 1 < recursionLimit
    exact hroom
  · have old : ∀ b o, hp.get? b = some o → h'.get? b = some o := fun b o e => k' b o (Nat.ne_of_lt (Nat.lt_succ_of_lt (Heap.lt_size e))) (k b o e)
    have z : hp.objs.size + 1 + 1 ≤ dx := by
      first
        | (simpa only [Heap.size_push] using dn)
        | exact dn
        | (have q := dn; rw [Heap.size_push, Heap.size_push] at q; exact q)
    exact ⟨rfl, hq h' tk' (hp.objs.size + 1) dx ⟨old, Nat.le_succ _, ⟨_, _, hx, rfl, rfl, rfl, rfl⟩, Nat.le_trans (Nat.le_trans (Nat.le_succ _) (Nat.le_succ _)) z, dne, hns⟩⟩
end
end EzIndex
end PySem
namespace L2
open PySem PySem.Spec PyProof.Rows
theorem relO_index {v : V} {v' : Value} (r : RelV v v') (f : Str) : RelO (List.lookup f [(("index" : Str), v)]) (if f = "index" then some v' else none) := by
  by_cases hw : f = "index"
  · subst hw
    rw [if_pos rfl]
    have q : List.lookup ("index" : Str) [(("index" : Str), v)] = some v := by simp [List.lookup]
    rw [q]
    exact r
  · rw [if_neg hw]
    have qw : (f == ("index" : Str)) = false := by simpa using hw
    have q2 : List.lookup f [(("index" : Str), v)] = none := by simp [List.lookup, qw]
    rw [q2]
    trivial
section
variable {X : Cx} {nm : Str} {qn : String} {C fI : Addr}
/-- Low(e) -/
def tMk_index (C : Addr) (ta : TA) : L2.St → Hp → XK → Prop := fun σ H Q => ta σ H fun vs H1 => ∃ v, vs = [v] ∧ ∀ d, H1 d = none → Q (.ref C) (some d) (upd H1 d (.xd [(("index" : Str), v)]))
theorem pmk_index {a : Expr} {ta : TA} {p pos : Pos} {k : Nat} (T : PySem.EzIndex.LowTxt X.K X.mg nm qn C fI) (hr : Room k X.A) (ha : PA X [a] ta) (hg : Gl X nm := by rfl) (hdb : (nm == ("__debug__" : Str)) = false := by decide)
    (he : starEach (a :: []) X.env = (false, eval a X.env) :: starEach [] X.env := by rfl) (hpl : (backTo pos (starEach [] X.env)).any (·.1) = false := by rfl) :
    PMk X (.Call (.Name nm p) [a] [] pos) (tMk_index C ta) := by
  intro pins s σ H Q I h
  refine wpAny_Call_Name_kw (ld_glob I hg T.gC ?_ hdb)
  refine PySem.W.callWith_K (h₀ := X.base) I.ok.mod.kin T.kC (thn (ha.run pos pins s σ H _ I h) fun us s1 hh => ?_) he hpl
  obtain ⟨vs, H1, I1, r1, v, ev, q1⟩ := hh
  subst ev
  refine ⟨I1.kIn, ?_⟩
  cases r1 with
  | cons rv rn =>
    rename_i v' us'
    cases rn
    show wpAny _ _ (call (.ref C) [v']) _ _ _
    have hlim := I1.nolimit
    obtain ⟨hp, g, dr, tk, os⟩ := s1
    refine wpAny_call (PySem.EzIndex.low_made T I1.kIn hlim (by have := hr.dp; omega) fun h' tk' e d M => ?_)
    show MkP X pins σ Q (.ref e) ⟨h', g, dr, tk', os⟩
    obtain ⟨oe, fv, hoe, hc, hd, hdat, h1⟩ := M.obj
    have hns := M.ns
    obtain ⟨G', g1, g2⟩ := restrict h' fun b => decide (b ≠ e)
    have gk : ∀ b, b ≠ e → G'.get? b = h'.get? b := fun b hb => g1 b (decide_eq_true hb)
    have ge : G'.get? e = none := g2 e (by simp)
    have old : ∀ b o, hp.get? b = some o → G'.get? b = some o := fun b o q => (gk b (Nat.ne_of_lt (Nat.lt_of_lt_of_le (Heap.lt_size q) M.new))).trans (M.keep b o q)
    have ob : ObjOk X.prog X.w (upd H1 d (.xd [(("index" : Str), v)])) G' d (.xd [(("index" : Str), v)]) :=
      ⟨_, hns.at (fun o q => (gk d M.dne).trans q), fun f => relO_index rv f⟩
    have J : Inv X pins σ (upd H1 d (.xd [(("index" : Str), v)])) ⟨G', g, dr, tk', os⟩ := I1.laid (t' := tk') old M.dbig ob
    refine ⟨e, oe, fv, ⟨G', g, dr, tk', os⟩, _, .ref C, some d, rfl, J, fun b o q => ?_, ge, hoe, ⟨hc, hd⟩, hdat, h1, ?_, rfl, I1.bare, raises_own T.exC T.tyC, q1 d (I1.hok.fresh M.dbig)⟩
    · by_cases hb : b = e
      · have q' : G'.get? b = some o := q
        rw [hb, ge] at q'; cases q'
      · exact (gk b hb).symm.trans q
    · rw [upd_ne (Ne.symm M.dne)]
      exact I1.hok.fresh M.new
/-- raise Low(e) -/
def tRaise_index (C : Addr) (W : WX) (ta : TA) : TS := fun _ σ H => tMk_index C ta σ H fun cls d H' => W cls d σ H'
theorem ps_raise_index {a : Expr} {ta : TA} {W : WX} {p pos pos2 : Pos} {k : Nat} (hc : X.calm = true) (T : PySem.EzIndex.LowTxt X.K X.mg nm qn C fI) (hr : Room k X.A) (tk : Takes X W) (ha : PA X [a] ta) (hg : Gl X nm := by rfl) (hdb : (nm == ("__debug__" : Str)) = false := by decide)
    (he : starEach (a :: []) X.env = (false, eval a X.env) :: starEach [] X.env := by rfl) (hpl : (backTo pos (starEach [] X.env)).any (·.1) = false := by rfl) :
    PS X (.Raise (some (.Call (.Name nm p) [a] [] pos)) none pos2) (tRaise_index C W ta) := ps_raise hc tk (pmk_index T hr ha hg hdb he hpl)
/-- low.by, low the exception that the suite holds (at a; its class cls, its dict d) -/
def tBy_index (C : Addr) (a : Addr) (cls : Value) (d : Option Addr) (te : TE) : TE := fun σ H Q => te σ H fun x H1 => x = .ref a ∧ cls = .ref C ∧ ∃ (dd : Addr) (v : V), d = some dd ∧ H1 dd = some (.xd [(("index" : Str), v)]) ∧ Q v H1
theorem pe_by_index {a : Addr} {oe : Obj} {cls : Value} {d : Option Addr} {pn : List (Addr × Obj)} {e : Expr} {te : TE} {pos : Pos} (T : PySem.EzIndex.LowTxt X.K X.mg nm qn C fI) (hz : Zc cls d oe) (hf : ∃ vs, oe.data = .fields vs) (he : PE (X.suite a ((a, oe) :: pn)) e te)
    (hb : attributeBase e "index" X.env (eval e X.env) = eval e X.env := by rfl) :
    PE (X.suite a ((a, oe) :: pn)) (.Attribute e "index" pos) (tBy_index C a cls d te) := by
  refine ⟨fun pins s σ H Q I h => ?_⟩
  refine attr_of hb (thn (he.run pins s σ H _ I h) fun u s1 hh => ?_)
  obtain ⟨x, H1, I1, rx, ex, ec, dd, v, ed, ea, q⟩ := hh
  subst ex
  obtain rfl : u = Value.ref a := rx
  subst ec
  subst ed
  obtain ⟨ha, _⟩ := I1.pin (a, oe) (List.mem_append_left _ List.mem_cons_self)
  obtain ⟨vs, hd⟩ := hf
  have hx : ObjOk X.prog X.w H1 s1.heap dd (.xd [(("index" : Str), v)]) := I1.hok dd _ ea
  obtain ⟨mA, hns, hr⟩ := hx
  obtain ⟨od, ho, hl⟩ := lookIn_ns hns
  have l : List.lookup ("index" : Str) [(("index" : Str), v)] = some v := by simp [List.lookup]
  obtain ⟨u, hu, ru⟩ := RelO.some_of (v := v) (o := mA "index") (by rw [← l]; exact hr "index")
  have J : PySem.W.InstAt s1.heap a oe C (some od) := ⟨ha, hz.1, by unfold PySem.W.notCls; rw [hd] <;> rfl, by rw [hz.2]; exact ho⟩
  exact HandSPX.exc_get I1.kIn J T.ga T.gg T.exC (PySem.W.findObj_own T.hdC T.noN rfl (by rw [hl, hu])) (handed_of ru) ⟨v, H1, I1.tok _, ru, q⟩
end
end L2


namespace KW
open PySem L2 Gd Zn KM KP
def top (i : Nat) : Stmt := PySem.Challenge.pw_formatrepair_k72_texts_of_scripts_patter.main.body.getD i (.Pass ⟨0, 0, 0, 0⟩)
/-- what the walk asks of the names that no def of the text stands behind -/
structure Txt (K : PySem.W.Frag) (mg : Str → Option Value) (base : Heap) : Prop where
  sys : SysIn base
  g_MOST_DIGITS : ∃ u, mg "MOST_DIGITS" = some u ∧ RelV (.int 30) u
  g_MOST_NESTED : ∃ u, mg "MOST_NESTED" = some u ∧ RelV (.int 100) u
  g_REPEAT : ∃ u, mg "REPEAT" = some u ∧ RelV (.str "repeat") u
  g_LETTERS : ∃ u, mg "LETTERS" = some u ∧ RelV (.str "abcdefghijklmnopqrstuvwxyz") u
  g_NO_SYMBOL : ∃ u, mg "NO_SYMBOL" = some u ∧ RelV (.str "-") u
  g_NO_NUMBER : ∃ u, mg "NO_NUMBER" = some u ∧ RelV (.str "none") u
  g_NUMBER_LIMIT : ∃ u, mg "NUMBER_LIMIT" = some u ∧ RelV (.int 1000000000000000000000000000000) u
  z_isinstance : mg "isinstance" = none
  z_int : mg "int" = none
  z_bool : mg "bool" = none
  z_str : mg "str" = none
  z_list : mg "list" = none
  z_tuple : mg "tuple" = none
  z_len : mg "len" = none
  z_all : mg "all" = none
  z_max : mg "max" = none
  z_min : mg "min" = none
  z_range : mg "range" = none
  z_repr : mg "repr" = none
  z_enumerate : mg "enumerate" = none
/-- the pool at p, its counter at most m -/
def BoxC (H : Hp) (p : Addr) (m : Nat) : Prop := ∃ a b c : Int, H p = some (.lst [.int a, .int b, .int c]) ∧ 0 ≤ b ∧ b < 2147483647 ∧ 0 ≤ c ∧ c ≤ m
/-- it has turned, nothing else -/
def TurnC (H H' : Hp) (p : Addr) (m : Nat) : Prop := BoxC H' p m ∧ ∀ q, q ≠ p → H' q = H q
def spBoxC : Sp := fun vs H Q _ => ∃ z : Int, vs = [.int z] ∧ ∀ (p : Addr) (o : HO), H p = none → BoxC (upd H p o) p 0 → Q (.ref p) (upd H p o)
def spTakeC : Sp := fun vs H Q _ => ∃ (p : Addr) (n : Int) (m : Nat), vs = [.ref p, .int n] ∧ BoxC H p m ∧ m < 100000 ∧ 0 < n ∧ n ≤ 1000000000000000000000000000000 ∧ ∀ (d : Int) (H' : Hp), 0 ≤ d → d < n → TurnC H H' p (m + 1) → Q (.int d) H'
def Short (v : V) : Prop := ∀ x, v = .str x → Tx 100000 x
def isLet : V → Bool
  | .str x => decide (x.length = 1) && x.cps.toList.all low
  | _ => false
def spAsk (f : V → Bool) : Sp := fun vs H Q _ => ∃ v, vs = [v] ∧ Pv H v ∧ Short v ∧ ∀ H', Same H H' → Q (.bl (f v)) H'
def spIsInt : Sp := fun vs H Q _ => ∃ v, vs = [v] ∧ Pv H v ∧ Q (.bl (isInt v)) H
def spIsList : Sp := fun vs H Q _ => ∃ b p xs, vs = [V.ref p] ∧ H p = some (so b xs) ∧ ∀ H', Same H H' → Q (.bl true) H'
def spIsIndex : Sp := fun vs H Q _ => ∃ i n : Int, vs = [.int i, .int n] ∧ 0 ≤ i ∧ i < n ∧ Q (.bl true) H
def spIsRep : Sp := fun vs H Q _ => ∃ v, vs = [v] ∧ ((∃ x, v = .str x ∧ Q (.bl false) H) ∨ (∃ a y, v = .ref a ∧ H a = some (.tup [.str sRep, y]) ∧ Q (.bl true) H))
def spIsNum : Sp := fun vs H Q _ => ∃ x : Str, vs = [.str x] ∧ x.length ≤ 100000 ∧ ∀ H', Same H H' → Q (.bl (K2.nOk x.cps.toList)) H'
section
variable {P : Program} {w : World} {K : PySem.W.Frag} {mg : Str → Option Value} {base : Heap}
abbrev s_law_cell : Stmt := top 54
theorem sc_law_cell : FnScope ["_law_script_here", "_law_k"] ["_law_script_here", "_law_k"] (defScope s_law_cell) := ⟨rfl, rfl, rfl, by decide +kernel, rfl, by decide +kernel, by decide +kernel⟩
theorem ok_cell {f : Addr} {fd : FuncData} (F : Fun K "_law_cell" "_law_cell" s_law_cell f fd) (T : Txt K mg base) : FnG P w K mg base CX0 1 f fd ["_law_script_here", "_law_k"] (spScr K) := by
  refine okG F sc_law_cell (fun vs H Q E h => ?_) (fun cdv A outer s H vs Q E hc hr h => ?_)
  · obtain ⟨p, ns, k, rfl, _⟩ := h
    rfl
  obtain ⟨p, ns, k, rfl, hs, k0, k1, q⟩ := h
  refine ⟨_, (pss_cons (ps_if (pt_cmpR op_lt (pv 1) (pe_callB call_len_seq (by rfl) T.z_len (by decide +kernel) (pa_cons (pv 0) pa_nil)) (nomark _))
  (pss_one (ps_ret (pe_ix ix_list (pv 0) (pv 1) (fun _ _ => rfl)))) pss_nil)
 (pss_one (ps_ret (pe_op op_add (pe_op op_mul pe_int (pv 1)) pe_int)))), ?_⟩
  refine ⟨_, rfl, _, rfl, p, _, rfl, .inl hs, _, _, rfl, rfl, _, rfl, ?_⟩
  refine ite2 (fun c => ?_) (fun c => ?_)
  · have c1 := of_decide_eq_true c
    rw [List.length_map] at c1
    obtain ⟨z, hz⟩ := at_script k0 c1
    exact ⟨_, rfl, _, rfl, p, _, _, _, rfl, rfl, hs, hz, q z⟩
  · exact ⟨_, rfl, _, _, rfl, rfl, .inl ⟨by decide, by decide⟩, _, _, rfl, rfl, q _⟩
abbrev s_law_box : Stmt := top 55
theorem sc_law_box : FnScope ["_law_cell_here"] ["_law_cell_here"] (defScope s_law_box) := ⟨rfl, rfl, rfl, by decide +kernel, rfl, by decide +kernel, by decide +kernel⟩
theorem ok_box {f : Addr} {fd : FuncData} (F : Fun K "_law_box" "_law_box" s_law_box f fd) (T : Txt K mg base) : FnG P w K mg base CX0 1 f fd ["_law_cell_here"] spBoxC := by
  refine okG F sc_law_box (fun vs H Q E h => ?_) (fun cdv A outer s H vs Q E hc hr h => ?_)
  · obtain ⟨z, rfl, _⟩ := h
    rfl
  obtain ⟨z, rfl, q⟩ := h
  refine ⟨_, (pss_one (ps_ret (pe_lst (pa_cons (pe_callB (call_max2 rfl) (by rfl) T.z_max (by decide +kernel) (pa_cons pe_int (pa_cons (pe_op op_sub (pv 0) (pe_op op_pow pe_int pe_int)) pa_nil))) (pa_cons (pe_op op_mod (pv 0) pe_int) (pa_cons pe_int pa_nil)))))), ?_⟩
  refine ⟨_, rfl, _, _, rfl, rfl, ⟨by decide, by decide, by decide⟩, _, _, rfl, rfl, _, _, rfl, _, rfl, _, _, rfl, rfl, (by show (0 : Int) < 2147483629; decide), ?_⟩
  refine ⟨(by show 3 ≤ sizeLine; decide), fun p hp => q p _ hp ⟨_, _, _, upd_same, ?_⟩⟩
  have := mod_pos (i := z) (j := 2147483629) (by decide)
  omega
abbrev s_law_take : Stmt := top 56
theorem sc_law_take : FnScope ["_law_box_here", "_law_many", "_law_digit", "_law_one", "_law_two"] ["_law_box_here", "_law_many"] (defScope s_law_take) := ⟨rfl, rfl, rfl, by decide +kernel, rfl, by decide +kernel, by decide +kernel⟩
theorem ok_take {f : Addr} {fd : FuncData} (F : Fun K "_law_take" "_law_take" s_law_take f fd) : FnG P w K mg base CX0 1 f fd ["_law_box_here", "_law_many"] spTakeC := by
  refine okG F sc_law_take (fun vs H Q E h => ?_) (fun cdv A outer s H vs Q E hc hr h => ?_)
  · obtain ⟨p, n, m, rfl, _⟩ := h
    rfl
  obtain ⟨p, n, m, rfl, ⟨a, b, c, hp, b0, b1, c0, c1⟩, hm, n0, n1, k⟩ := h
  refine ⟨_, (pss_cons (ps_if (pt_cmpR op_gt (pe_ix ix_list (pv 0) pe_int (fun _ _ => rfl)) pe_int (nomark _))
  (pss_cons (ps_set (i := 2) sc_law_take.nd rfl (Or.inl rfl) (pe_op op_mod (pe_ix ix_list (pv 0) pe_int (fun _ _ => rfl)) (pv 1)))
 (pss_cons (ps_asg (pe_op op_fdivW (pe_ix ix_list (pv 0) pe_int (fun _ _ => rfl)) (pv 1)) (pg_sub (pv 0) pe_int set_list))
 (pss_one (ps_ret (pv 2))))) pss_nil)
 (pss_cons (ps_asg (pe_op op_add (pe_ix ix_list (pv 0) pe_int (fun _ _ => rfl)) pe_int) (pg_sub (pv 0) pe_int set_list))
 (pss_cons (ps_set (i := 3) sc_law_take.nd rfl (Or.inl rfl) (pe_op op_mod (pe_op op_pow (pe_op op_add (pe_op op_add (pe_ix ix_list (pv 0) pe_int (fun _ _ => rfl)) (pe_op op_mul pe_int (pe_ix ix_list (pv 0) pe_int (fun _ _ => rfl)))) pe_int) pe_int) pe_int))
 (pss_cons (ps_set (i := 4) sc_law_take.nd rfl (Or.inl rfl) (pe_op op_mod (pe_op op_pow (pe_op op_add (pe_op op_add (pe_op op_fdivW (pv 3) pe_int) (pe_op op_mul pe_int (pe_ix ix_list (pv 0) pe_int (fun _ _ => rfl)))) pe_int) pe_int) pe_int))
 (pss_one (ps_ret (pe_op op_mod (pe_op op_add (pe_op op_fdivW (pv 3) pe_int) (pe_op op_mul pe_int (pe_op op_fdivW (pv 4) pe_int))) (pv 1)))))))), ?_⟩
  refine ⟨_, rfl, p, _, _, _, rfl, rfl, SqL.of hp, atI_nat (j := 0) rfl, _, _, rfl, rfl, _, rfl, ?_⟩
  refine ite2 (fun ha => ?_) (fun ha => ?_)
  · refine ⟨_, rfl, p, _, _, _, rfl, rfl, SqL.of hp, atI_nat (j := 0) rfl, _, rfl, _, _, rfl, rfl, n0, ?_⟩
    refine ⟨_, rfl, p, _, _, _, rfl, rfl, SqL.of hp, atI_nat (j := 0) rfl, _, rfl, _, _, rfl, rfl, wide_div (b := 100) n0 (by omega) (by decide) (by decide), ?_⟩
    refine ⟨_, rfl, p, _, _, 0, rfl, rfl, hp, rfl, _, rfl, ?_⟩
    exact k _ _ (mod_pos n0).1 (mod_pos n0).2 ⟨⟨_, _, _, upd_same, b0, b1, c0, by omega⟩, fun q hq => upd_ne hq⟩
  · refine ⟨_, rfl, p, _, _, _, rfl, rfl, SqL.of hp, atI_nat (j := 2) rfl, _, _, rfl, rfl, ?_⟩
    refine ⟨_, rfl, p, _, _, 2, rfl, rfl, hp, rfl, ?_⟩
    have h1 : ∀ {z : V}, (upd H p (.lst ([V.int a, .int b, .int c].set 2 z))) p = some (.lst [.int a, .int b, z]) := upd_same
    refine ⟨_, rfl, p, _, _, _, rfl, rfl, SqL.of h1, atI_nat (j := 1) rfl, _, rfl, p, _, _, _, rfl, rfl, SqL.of h1, atI_nat (j := 2) rfl, _, _, rfl, rfl, .inl ⟨by decide, by decide⟩, _, _, rfl, rfl, _, _, rfl, rfl, ?_⟩
    refine ⟨_, _, rfl, rfl, ⟨by decide, by decide, ?_⟩, _, _, rfl, rfl, (by show (0 : Int) < 2147483647; decide), ?_⟩
    · show (b + 7919 * (c + 1) + 29).natAbs < 2 ^ 64
      omega
    have m0 := mod_pos (i := (b + 7919 * (c + 1) + 29) ^ (5 : Int).toNat) (j := 2147483647) (by decide)
    refine ⟨_, rfl, _, _, rfl, rfl, wide_div (b := 5) (by decide) (by decide) (by decide) (by decide), ?_⟩
    generalize (b + 7919 * (c + 1) + 29) ^ (5 : Int).toNat % 2147483647 = one at m0
    refine ⟨_, rfl, p, _, _, _, rfl, rfl, SqL.of h1, atI_nat (j := 2) rfl, _, _, rfl, rfl, .inl ⟨by decide, by decide⟩, _, _, rfl, rfl, _, _, rfl, rfl, ?_⟩
    refine ⟨_, _, rfl, rfl, ⟨by decide, by decide, ?_⟩, _, _, rfl, rfl, (by show (0 : Int) < 2147483629; decide), ?_⟩
    · show (one / 8 + 104729 * (c + 1) + 11).natAbs < 2 ^ 64
      have := Int.ediv_nonneg m0.1 (show (0 : Int) ≤ 8 by decide)
      have := Int.ediv_le_self 8 m0.1
      omega
    refine ⟨_, rfl, _, _, rfl, rfl, wide_div (b := 5) (by decide) (by decide) (by decide) (by decide), _, rfl, _, _, rfl, rfl, wide_div (b := 5) (by decide) (by decide) (by decide) (by decide), ?_⟩
    refine ⟨_, _, rfl, rfl, .inl ⟨by decide, by decide⟩, _, _, rfl, rfl, _, rfl, _, _, rfl, rfl, n0, ?_⟩
    exact k _ _ (mod_pos n0).1 (mod_pos n0).2 ⟨⟨_, _, _, upd_same, b0, b1, by omega, by omega⟩, fun q hq => upd_ne hq⟩
abbrev sis_integer : Stmt := top 11
theorem scis_integer : FnScope ["value"] ["value"] (defScope sis_integer) := ⟨rfl, rfl, rfl, by decide +kernel, rfl, by decide +kernel, by decide +kernel⟩
theorem ok_isint {f : Addr} {fd : FuncData} (F : Fun K "is_integer" "is_integer" sis_integer f fd) (T : Txt K mg base) : FnG P w K mg base CX0 1 f fd ["value"] spIsInt := by
  refine okG F scis_integer (fun vs H Q E h => ?_) (fun cdv A outer s H vs Q E hc hr h => ?_)
  · obtain ⟨v, rfl, _⟩ := h
    rfl
  obtain ⟨v, rfl, hv, q⟩ := h
  refine ⟨_, (pss_one (ps_ret (pe_and (pe_callB call_isk (by rfl) T.z_isinstance (by decide +kernel) (pa_cons (pv 0) (pa_cons (pe_bltn (v := .ty "int") (by rfl) T.z_int (by decide +kernel) rfl) pa_nil))) (pe_one (pe_not (pe_callB call_isk (by rfl) T.z_isinstance (by decide +kernel) (pa_cons (pv 0) (pa_cons (pe_bltn (v := .ty "bool") (by rfl) T.z_bool (by decide +kernel) rfl) pa_nil)))))))), ?_⟩
  refine ⟨_, rfl, v, _, rfl, .inl rfl, hv, _, rfl, ?_⟩
  refine ite2 (fun c => ?_) (fun c => ?_)
  · refine ⟨_, rfl, v, _, rfl, .inr (.inr (.inl rfl)), hv, _, rfl, ?_⟩
    have e := isInt_kind H v
    rw [c, Bool.true_and] at e
    show Q (.bl (!inst "bool" (kind H v))) H
    rw [e]
    exact q
  · have e := isInt_kind H v
    rw [Bool.eq_false_iff.mpr c, Bool.false_and] at e
    show Q (.bl false) H
    rw [e]
    exact q
abbrev sis_list : Stmt := top 13
theorem scis_list : FnScope ["value"] ["value"] (defScope sis_list) := ⟨rfl, rfl, rfl, by decide +kernel, rfl, by decide +kernel, by decide +kernel⟩
theorem ok_islist {f : Addr} {fd : FuncData} (F : Fun K "is_list" "is_list" sis_list f fd) (T : Txt K mg base) : FnG P w K mg base CX0 1 f fd ["value"] spIsList := by
  refine okG F scis_list (fun vs H Q E h => ?_) (fun cdv A outer s H vs Q E hc hr h => ?_)
  · obtain ⟨b, p, xs, rfl, _⟩ := h
    rfl
  obtain ⟨b, p, xs, rfl, hb, q⟩ := h
  refine ⟨_, (pss_one (ps_ret (pe_callB call_isk2 (by rfl) T.z_isinstance (by decide +kernel) (pa_cons (pv 0) (pa_cons (pe_tup (pa_cons (pe_bltn (v := .ty "list") (by rfl) T.z_list (by decide +kernel) rfl) (pa_cons (pe_bltn (v := .ty "tuple") (by rfl) T.z_tuple (by decide +kernel) rfl) pa_nil))) pa_nil))))), ?_⟩
  refine ⟨_, rfl, by show 2 ≤ sizeLine; decide, fun t ht => ?_⟩
  have s1 : Same H (upd H t (.tup [.ty "list", .ty "tuple"])) := upd_new ht
  obtain ⟨k1, k2⟩ := so_kind (s1 _ _ hb)
  refine ⟨.ref p, t, "list", "tuple", rfl, upd_same, .inr (.inr (.inr (.inl rfl))), .inr (.inr (.inr (.inr (.inl rfl)))), k1, ?_⟩
  rw [k2]
  exact q _ s1
theorem isLet_not {H : Hp} {v : V} (c : inst "str" (kind H v) = false) : isLet v = false := by
  rw [isStr_kind] at c
  cases v with
  | str x => exact nomatch c
  | _ => rfl
theorem notStr {H : Hp} {v : V} (c : inst "str" (kind H v) = false) : isLet v = false := by
  rw [isStr_kind] at c
  cases v with
  | str x => exact nomatch c
  | _ => exact rfl
theorem isStrOf {H : Hp} {v : V} (c : inst "str" (kind H v) = true) : ∃ x, v = .str x := by
  rw [isStr_kind] at c
  cases v with
  | str x => exact ⟨x, rfl⟩
  | _ => exact nomatch c
abbrev sis_letter : Stmt := top 12
theorem scis_letter : FnScope ["value"] ["value"] (defScope sis_letter) := ⟨rfl, rfl, rfl, by decide +kernel, rfl, by decide +kernel, by decide +kernel⟩
theorem ok_isletter {f : Addr} {fd : FuncData} (F : Fun K "is_letter" "is_letter" sis_letter f fd) (T : Txt K mg base) : FnG P w K mg base CX0 1 f fd ["value"] (spAsk isLet) := by
  refine okG F scis_letter (fun vs H Q E h => ?_) (fun cdv A outer s H vs Q E hc hr h => ?_)
  · obtain ⟨v, rfl, _⟩ := h
    rfl
  obtain ⟨v, rfl, hv, hs, q⟩ := h
  have q := q H (Same.refl H)
  refine ⟨_, (pss_one (ps_ret (pe_and (pe_callB call_isk (by rfl) T.z_isinstance (by decide +kernel) (pa_cons (pv 0) (pa_cons (pe_bltn (v := .ty "str") (by rfl) T.z_str (by decide +kernel) rfl) pa_nil))) (pe_and (pe_cmpR op_eq (pe_callB call_len_str (by rfl) T.z_len (by decide +kernel) (pa_cons (pv 0) pa_nil)) pe_int (nomark _)) (pe_one (pe_chain op_le_str op_le_str pe_str (pv 0) pe_str)))))), ?_⟩
  refine ⟨_, rfl, v, _, rfl, .inr (.inl rfl), hv, _, rfl, ?_⟩
  refine iteB (fun c => ?_) (fun c => ?_)
  · obtain ⟨x, rfl⟩ := isStrOf c
    have tx := hs x rfl
    have hl := tx.len
    have z16 := sizeLine_eq
    refine ⟨_, rfl, x, rfl, by omega, rfl, _, rfl, ?_⟩
    have e1 : decide (V.int (x.length : Int) = V.int 1) = decide (x.length = 1) := decide_eq_decide.mpr ⟨fun z => by injection z with z; omega, fun z => by rw [z]; rfl⟩
    rw [e1]
    have qq : Q (.bl (decide (x.length = 1) && x.cps.toList.all low)) H := q
    refine iteB (fun c1 => ?_) (fun c1 => ?_)
    · have h1 : x.cps.toList.length = 1 := by rw [← len_list]; exact of_decide_eq_true c1
      obtain ⟨u, hu⟩ := List.length_eq_one_iff.mp h1
      have ex : x = ⟨#[u]⟩ := str_ext hu
      subst ex
      refine ⟨_, rfl, _, _, rfl, rfl, _, rfl, ?_⟩
      rw [low_fst]
      have ql : Q (.bl (low u)) H := by
        have : (decide (({ cps := #[u] } : Str).length = 1) && ({ cps := #[u] } : Str).cps.toList.all low) = low u := by
          show (true && (low u && true)) = low u
          simp
        rw [this] at qq
        exact qq
      refine iteB (fun g1 => ?_) (fun g1 => ?_)
      · refine ⟨_, _, rfl, rfl, ?_⟩
        rw [low_snd]
        have : low u = decide (u ≤ 122) := by unfold low; rw [g1, Bool.true_and]
        rw [← this]
        exact ql
      · have : low u = false := by unfold low; rw [g1, Bool.false_and]
        rw [← this]
        exact ql
    · rw [c1, Bool.false_and] at qq
      exact qq
  · have := (notStr c)
    rw [this] at q
    exact q
abbrev sis_index : Stmt := top 14
theorem scis_index : FnScope ["value", "size"] ["value", "size"] (defScope sis_index) := ⟨rfl, rfl, rfl, by decide +kernel, rfl, by decide +kernel, by decide +kernel⟩
theorem ok_isindex {f f1 : Addr} {fd fd1 : FuncData} (F : Fun K "is_index" "is_index" sis_index f fd) (T : Txt K mg base)
    (D_is_integer : Df P w K mg base CX0 1 "is_integer" f1 fd1 ["value"] spIsInt) : FnG P w K mg base CX0 2 f fd ["value", "size"] spIsIndex := by
  refine okG F scis_index (fun vs H Q E h => ?_) (fun cdv A outer s H vs Q E hc hr h => ?_)
  · obtain ⟨i, n, rfl, _⟩ := h
    rfl
  obtain ⟨i, n, rfl, h0, h1, q⟩ := h
  refine ⟨_, (pss_one (ps_ret (pe_and (pe_d D_is_integer hc (hr.mono (by decide)) (by rfl) (fun _ => passN) (pa_cons (pv 0) pa_nil)) (pe_one (pe_chain op_le op_lt pe_int (pv 0) (pv 1)))))), ?_⟩
  refine ⟨_, rfl, .int i, rfl, (fun z => nomatch z), _, rfl, iteT ?_⟩
  refine ⟨_, rfl, _, _, rfl, rfl, _, rfl, ?_⟩
  rw [decide_eq_true h0]
  refine iteT ⟨_, rfl, _, _, rfl, rfl, ?_⟩
  show Q (.bl (decide (i < n))) H
  rw [decide_eq_true h1]
  exact q
abbrev sis_repetition : Stmt := top 26
theorem scis_repetition : FnScope ["value"] ["value"] (defScope sis_repetition) := ⟨rfl, rfl, rfl, by decide +kernel, rfl, by decide +kernel, by decide +kernel⟩
theorem ok_isrep {f : Addr} {fd : FuncData} (F : Fun K "is_repetition" "is_repetition" sis_repetition f fd) (T : Txt K mg base) : FnG P w K mg base CX0 1 f fd ["value"] spIsRep := by
  refine okG F scis_repetition (fun vs H Q E h => ?_) (fun cdv A outer s H vs Q E hc hr h => ?_)
  · obtain ⟨v, rfl, _⟩ := h
    rfl
  obtain ⟨v, rfl, h⟩ := h
  refine ⟨_, (pss_one (ps_ret (pe_and (pe_callB call_isk (by rfl) T.z_isinstance (by decide +kernel) (pa_cons (pv 0) (pa_cons (pe_bltn (v := .ty "tuple") (by rfl) T.z_tuple (by decide +kernel) rfl) pa_nil))) (pe_and (pe_cmpR op_eq (pe_callB call_len_seq (by rfl) T.z_len (by decide +kernel) (pa_cons (pv 0) pa_nil)) pe_int (nomark _)) (pe_one (pe_cmpR op_eq (pe_ix ix_tup (pv 0) pe_int (fun _ _ => rfl)) (pe_k (by rfl) T.g_REPEAT) (nomark _))))))), ?_⟩
  rcases h with ⟨x, rfl, q⟩ | ⟨a, y, rfl, ha, q⟩
  · exact ⟨_, rfl, .str x, _, rfl, .inr (.inr (.inr (.inr (.inl rfl)))), (fun z => nomatch z), _, rfl, q⟩
  · have ek : kind H (.ref a) = .tup := by
      show kindO (H a) = .tup
      rw [ha]
      rfl
    refine ⟨_, rfl, .ref a, _, rfl, .inr (.inr (.inr (.inr (.inl rfl)))), by unfold Pv; rw [ek]; exact (fun z => nomatch z), _, rfl, ?_⟩
    rw [ek]
    refine iteT ⟨_, rfl, a, _, rfl, .inr (SqT.of ha), rfl, _, rfl, iteT ?_⟩
    exact ⟨_, rfl, a, _, _, _, rfl, rfl, SqT.of ha, atI_nat (j := 0) rfl, rfl, q⟩
end
end KW

namespace KW
open PySem L2 Gd Zn KM KP
open K2 (nOk numV valL dOk body isDg dOk_iff prefix_body body_len)
section
variable {P : Program} {w : World} {K : PySem.W.Frag} {mg : Str → Option Value} {base : Heap}
abbrev sis_number : Stmt := top 16
theorem scis_number : FnScope ["text", "digits", "sign"] ["text"] (defScope sis_number) := ⟨rfl, rfl, rfl, by decide +kernel, rfl, by decide +kernel, by decide +kernel⟩
theorem ok_isnum {f : Addr} {fd : FuncData} (F : Fun K "is_number" "is_number" sis_number f fd) (T : Txt K mg base) : FnG P w K mg base CX0 1 f fd ["text"] spIsNum := by
  refine okG F scis_number (fun vs H Q E h => ?_) (fun cdv A outer s H vs Q E hc hr h => ?_)
  · obtain ⟨v, rfl, _⟩ := h
    rfl
  obtain ⟨x, rfl, hx, q⟩ := h
  refine ⟨_, (pss_cons (ps_set (i := 1) scis_number.nd rfl (Or.inl rfl) (pe_bm PySem.F.plainAttrs_str PySem.F.slot_str_removeprefix PySem.F.type_str_removeprefix mt_removeprefix (pv 0) (pa_cons pe_str pa_nil)))
 (pss_cons (ps_if (PW.pt (pw_or (pt_not (pt_chain op_le op_le pe_int (pe_callB call_len_str (by rfl) T.z_len (by decide +kernel) (pa_cons (pv 1) pa_nil)) (pe_k (by rfl) T.g_MOST_DIGITS))) (pw_or1 (pt_not (pt_val (pe_callB (cr_all rfl) (by rfl) T.z_all (by decide +kernel) (pa_cons (pe_lc (own := [("sign", 2)]) (g := gName 2) rfl scis_number.nd (pi_str (pv 1)) (blkOk_by (N := ["text", "digits", "sign"]) (sc := defScope sis_number) (by decide +kernel)) (fun _ _ _ _ _ => pg_name (i := 2) scis_number.nd rfl (Or.inl rfl)) (fun _ _ _ _ _ => pts_nil) (fun _ _ _ _ _ => (pe_chain op_le_str op_le_str pe_str (pv 2) pe_str))) pa_nil)))))))
  (pss_one (ps_ret pe_bl)) pss_nil)
 (pss_one (ps_ret (pe_or (pe_cmpR op_ne (pe_ix ix_str (pv 1) pe_int (fun _ _ => rfl)) pe_str (nomark _)) (pe_one (pe_cmpR op_eq (pv 0) pe_str (nomark _)))))))), ?_⟩
  obtain ⟨d, hd⟩ : ∃ d, d = Txt.removeprefix x "-" := ⟨_, rfl⟩
  have ed : d.cps.toList = body x.cps.toList := by rw [hd]; exact prefix_body x
  have ld : d.length ≤ x.length := by
    have h1 : d.length = (body x.cps.toList).length := by rw [← ed]; exact (Array.length_toList).symm
    have h2 : x.length = x.cps.toList.length := (Array.length_toList).symm
    rw [h1, h2]
    exact body_len _
  have z16 : sizeLine = 16777216 := sizeLine_eq
  have ldn : d.length = (body x.cps.toList).length := by rw [← ed]; exact (Array.length_toList).symm
  refine ⟨_, rfl, rfl, x, _, rfl, rfl, (by omega), ?_⟩
  rw [← hd]
  refine ⟨_, rfl, _, rfl, (by omega), _, _, rfl, rfl, _, rfl, ?_⟩
  have no : dOk (body x.cps.toList) = false → nOk x.cps.toList = false := fun e => by
    unfold nOk
    rw [e]
    rfl
  -- the way of a refused one
  have bad : dOk (body x.cps.toList) = false → ∀ H', Same H H' → Q (.bl false) H' := fun e H' s => by
    have := q H' s
    rw [no e] at this
    exact this
  refine iteB (fun c1 => ?_) (fun c1 => ?_)
  · have c1' := of_decide_eq_true c1
    refine ⟨_, _, rfl, rfl, _, rfl, ?_⟩
    refine iteB (fun c2 => ?_) (fun c2 => ?_)
    · -- too many
      refine iteT (bad ?_ H (Same.refl H))
      have c3 : ¬ ((d.length : Int) ≤ 30) := of_decide_eq_false (by simpa using c2)
      have : ¬ dOk (body x.cps.toList) = true := fun z => by
        have := (dOk_iff.mp z).2.1
        omega
      simpa using this
    · have c3 : (d.length : Int) ≤ 30 := of_decide_eq_true (by simpa using c2)
      refine ⟨_, rfl, d, rfl, fun D hD => ?_⟩
      refine lc_text (fun c => .bl (isDg c)) (fun _ => true) (by omega) (fun c acc Q' _ k => k) (fun c acc Q' hc _ k => ?_) ?_
      · refine ⟨_, rfl, _, _, rfl, rfl, _, rfl, ?_⟩
        have e1 : (!decide ((({ cps := #[c] } : Str)).cps.toList < (("0" : String) : Str).cps.toList)) = decide (48 ≤ c) := by
          show (!decide (([c] : List Nat) < [48])) = _
          rw [lt_sign, ← decide_not]
          exact decide_eq_decide.mpr (by omega)
        have e2 : (!decide ((("9" : String) : Str).cps.toList < (({ cps := #[c] } : Str)).cps.toList)) = decide (c ≤ 57) := by
          show (!decide (([57] : List Nat) < [c])) = _
          rw [lt_sign, ← decide_not]
          exact decide_eq_decide.mpr (by omega)
        rw [e1]
        refine iteB (fun g1 => ?_) (fun g1 => ?_)
        · refine ⟨_, _, rfl, rfl, ?_⟩
          rw [e2]
          have : isDg c = decide (c ≤ 57) := by unfold isDg; rw [g1, Bool.true_and]
          rw [← this]
          exact k
        · have : isDg c = false := by unfold isDg; rw [g1, Bool.false_and]
          rw [← this]
          exact k
      · rw [List.filter_eq_self.mpr (fun _ _ => rfl)]
        refine ⟨D, body x.cps.toList |>.map isDg, rfl, ?_, _, rfl, ?_⟩
        · rw [List.map_map, ed]
          exact SqL.of upd_same
        · have ea : ((body x.cps.toList).map isDg).all id = (body x.cps.toList).all isDg := by
            rw [List.all_map]
            rfl
          rw [ea]
          have sD : Same H (upd H D (.lst (d.cps.toList.map fun c => V.bl (isDg c)))) := fun b o e => by rw [upd_ne (ne_of_none e hD)]; exact e
          refine iteB (fun c4 => ?_) (fun c4 => ?_)
          · refine bad ?_ _ sD
            unfold dOk
            rw [show (body x.cps.toList).all isDg = false by simpa using c4, Bool.and_false]
          · have c5 : (body x.cps.toList).all isDg = true := by simpa using c4
            have hok : dOk (body x.cps.toList) = true := by
              unfold dOk
              rw [c5, decide_eq_true (by omega), decide_eq_true (by omega)]
              rfl
            -- return digits[0] != "0" or text == "0"
            cases eb : body x.cps.toList with
            | nil => rw [eb] at ldn; exact absurd ldn (by simp; omega)
            | cons c r =>
              have hat : atI d.cps.toList 0 = some c := by
                rw [ed, eb]
                exact atI_nat (j := 0) rfl
              have en : nOk x.cps.toList = (!decide (c = 48) || decide (x.cps.toList = [48])) := by
                unfold nOk
                rw [hok, eb, Bool.true_and]
                have : decide ((c :: r).head? = some 48) = decide (c = 48) := decide_eq_decide.mpr (by simp)
                rw [this]
              have e48 : decide (V.str { cps := #[c] } = V.str (("0" : String) : Str)) = decide (c = 48) := by
                refine decide_eq_decide.mpr ⟨fun z => ?_, fun z => by subst z; rfl⟩
                have := congrArg (fun v => match v with | V.str y => y.cps.toList | _ => []) z
                have h2 : [c] = [48] := this
                injection h2
              refine ⟨_, rfl, _, _, c, rfl, rfl, (by omega), hat, rfl, _, rfl, ?_⟩
              rw [e48]
              refine iteB (fun g => ?_) (fun g => ?_)
              · have := q _ sD
                rw [en, g] at this
                exact this
              · refine ⟨_, rfl, rfl, ?_⟩
                have := q _ sD
                rw [en, g, Bool.false_or] at this
                have ex : decide (V.str x = V.str (("0" : String) : Str)) = decide (x.cps.toList = [48]) := by
                  refine decide_eq_decide.mpr ⟨fun z => ?_, fun z => ?_⟩
                  · injection z with z
                    rw [z]
                    rfl
                  · have : x = (("0" : String) : Str) := by
                      obtain ⟨cp⟩ := x
                      have h2 : cp = #[48] := by apply Array.toList_inj.mp; exact z
                      rw [h2]
                      rfl
                    rw [this]
                rw [ex]
                exact this
  · refine ⟨_, rfl, iteT (iteT (bad ?_ H (Same.refl H)))⟩
    have : ¬ dOk (body x.cps.toList) = true := fun z => by
      have := (dOk_iff.mp z).1
      have := of_decide_eq_false c1
      omega
    simpa using this
end
end KW

/-! numbers from 0 as words: their signs, what they say when they are read again -/
namespace Gd
open PySem L2
open K2 (nOk numV valL dOk body isDg dOk_iff isDg_iff)
def nw (i : Nat) : Str := Str.ofString (toString ((i : Nat) : Int))
theorem dig_head : ∀ n : Nat, 1 ≤ n → ∃ c r, Nat.toDigits 10 n = c :: r ∧ c ≠ '0' := by
  intro n
  induction n using Nat.strongRecOn with
  | ind n ih =>
    intro h
    rw [Nat.toDigits_eq_if (by decide)]
    by_cases hn : n < 10
    · rw [if_pos hn]
      refine ⟨_, [], rfl, ?_⟩
      have : ∀ k : Fin 10, k.val = 0 ∨ Nat.digitChar k.val ≠ '0' := by decide
      rcases this ⟨n, hn⟩ with z | z
      · exact absurd z (by show ¬ n = 0; omega)
      · exact z
    · rw [if_neg hn]
      obtain ⟨c, r, e, hc⟩ := ih (n / 10) (by omega) (by omega)
      exact ⟨c, r ++ [(n % 10).digitChar], by rw [e]; rfl, hc⟩
theorem nw_list (i : Nat) : (nw i).cps.toList = (Nat.toDigits 10 i).map Char.toNat := PySem.W.KIN.signs_num i
theorem nw_dig (i : Nat) : ∀ c ∈ (nw i).cps.toList, 48 ≤ c ∧ c ≤ 57 := by
  intro c hc
  rw [nw_list] at hc
  obtain ⟨d, hd, rfl⟩ := List.mem_map.mp hc
  have := Nat.isDigit_of_mem_toDigits (by decide) (by decide) hd
  unfold Char.isDigit at this
  rw [Bool.and_eq_true, decide_eq_true_eq, decide_eq_true_eq] at this
  exact ⟨this.1, this.2⟩
theorem nw_len {i : Nat} (h : i < 1000000000000000000000000000000) : (nw i).cps.toList.length ≤ 30 := by
  rw [nw_list, List.length_map]
  exact (Nat.length_toDigits_le_iff (by decide) (by decide)).mpr (by exact h)
theorem nw_pos (i : Nat) : 1 ≤ (nw i).cps.toList.length := by
  rw [nw_list, List.length_map]
  exact Nat.length_toDigits_pos
theorem nw_body (i : Nat) : body (nw i).cps.toList = (nw i).cps.toList := by
  cases e : (nw i).cps.toList with
  | nil => rfl
  | cons c r =>
    have := nw_dig i c (by rw [e]; exact List.mem_cons_self)
    show (if c = 45 then r else c :: r) = c :: r
    rw [if_neg (by omega)]
theorem nw_ok {i : Nat} (h : i < 1000000000000000000000000000000) : nOk (nw i).cps.toList = true := by
  have d : dOk (nw i).cps.toList = true := by
    rw [dOk_iff]
    exact ⟨nw_pos i, nw_len h, nw_dig i⟩
  unfold nOk
  rw [nw_body, d, Bool.true_and]
  by_cases h0 : i = 0
  · subst h0
    decide +kernel
  · obtain ⟨c, r, e, hc⟩ := dig_head i (by omega)
    have : decide ((nw i).cps.toList.head? = some 48) = false := by
      rw [nw_list, e]
      refine decide_eq_false fun z => hc ?_
      have z : c.toNat = 48 := Option.some.inj z
      exact Char.ext (UInt32.toNat_inj.mp z)
    rw [this]
    rfl
theorem nw_val (i : Nat) : valL (nw i).cps.toList = (i : Int) := by
  have e : (nw i).cps.toList.head? ≠ some 45 := by
    intro z
    have := nw_dig i 45 (List.mem_of_mem_head? z)
    omega
  unfold valL
  rw [if_neg e, nw_body, K2.foldV_nat (nw_dig i), nw_list, PySem.W.KIN.val_back]
theorem nw_num {i : Nat} (h : i < 1000000000000000000000000000000) : numV (.str (nw i)) = some (i : Int) := by
  show (if nOk (nw i).cps.toList = true then some (valL (nw i).cps.toList) else none) = _
  rw [if_pos (nw_ok h), nw_val]
theorem nw_tx {i : Nat} (h : i < 1000000000000000000000000000000) : Tx 30 (nw i) := ⟨by rw [len_list]; exact nw_len h, fun c hc => by have := nw_dig i c hc; omega⟩
/-- a number is no other word -/
theorem nw_ne (i : Nat) {z : Str} (h : (z.cps.toList.any fun c => decide (c < 48) || decide (57 < c)) = true) : nw i ≠ z := by
  intro e
  obtain ⟨c, hc, hd⟩ := List.any_eq_true.mp h
  rw [← e] at hc
  have := nw_dig i c hc
  rw [Bool.or_eq_true, decide_eq_true_eq, decide_eq_true_eq] at hd
  omega
end Gd

namespace KW
open PySem L2 Gd Zn KM KP
open K2 (nOk numV valL dOk body isDg dOk_iff prefix_body body_len)
abbrev sDash : Str := "-"
abbrev sNon : Str := "none"
abbrev sAbc : Str := "abcdefghijklmnopqrstuvwxyz"
/-- a letter, or the empty text -/
def Sym (x : Str) : Prop := x = "" ∨ ∃ c, x = ⟨#[c]⟩ ∧ low c = true
def swd (x : Str) : Str := if x = "" then sDash else x
/-- a cost: none, or a number from 0 -/
def oV : Option Nat → V
  | none => .non
  | some i => .int (i : Nat)
def oW : Option Nat → Str
  | none => sNon
  | some i => nw i
def oOk : Option Nat → Prop
  | none => True
  | some i => i < 1000000000000000000000000000000
/-- what a word says -/
def oC (x : Str) : V := match numV (.str x) with
  | none => .non
  | some n => if n < 0 then .non else .int n
theorem oC_of : ∀ o : Option Nat, oOk o → oC (oW o) = oV o
  | none, _ => by decide +kernel
  | some i, h => by
    show (match numV (.str (nw i)) with | none => V.non | some n => if n < 0 then V.non else .int n) = _
    rw [nw_num h]
    show (if ((i : Nat) : Int) < 0 then V.non else .int (i : Nat)) = _
    rw [if_neg (by omega)]
    rfl
theorem log_ok {i : Nat} (h : i < 1000000000000000000000000000000) : ((i : Nat) : Int).natAbs.log2 < 1920 := by
  rw [Int.natAbs_natCast]
  by_cases h0 : i = 0
  · subst h0
    decide
  · exact (Nat.log2_lt h0).mpr (Nat.lt_trans h (by decide +kernel))
/-- a word of a line -/
def Wd (x : Str) : Prop := Tx 40 x ∧ 1 ≤ x.length ∧ 32 ∉ x.cps.toList ∧ 10 ∉ x.cps.toList
theorem wd_of {x : Str} (h : (decide (x.length ≤ 40) && (x.cps.toList.all fun c => decide (c < 128)) && decide (1 ≤ x.length) && (x.cps.toList.all fun c => decide (c ≠ 32) && decide (c ≠ 10))) = true) : Wd x := by
  rw [Bool.and_eq_true, Bool.and_eq_true, decide_eq_true_eq] at h
  obtain ⟨⟨h1, h2⟩, h3⟩ := h
  rw [List.all_eq_true] at h3
  refine ⟨.of h1, h2, fun z => ?_, fun z => ?_⟩
  · exact absurd (h3 _ z) (by decide)
  · exact absurd (h3 _ z) (by decide)
theorem wd_nw {i : Nat} (h : i < 1000000000000000000000000000000) : Wd (nw i) := by
  refine ⟨(nw_tx h).mono (by decide), by rw [len_list]; exact nw_pos i, fun z => ?_, fun z => ?_⟩
  · have := nw_dig i 32 z; omega
  · have := nw_dig i 10 z; omega
theorem wd_oW : ∀ {o : Option Nat}, oOk o → Wd (oW o)
  | none, _ => wd_of (by decide +kernel)
  | some _, h => wd_nw h
theorem sym_tx {x : Str} (h : Sym x) : Tx 1 x := by
  rcases h with rfl | ⟨c, rfl, hc⟩
  · exact .of (by decide +kernel)
  · unfold low at hc
    rw [Bool.and_eq_true, decide_eq_true_eq, decide_eq_true_eq] at hc
    exact ⟨Nat.le_refl _, fun d hd => by
      have : d = c := by simpa using hd
      omega⟩
theorem one_ne {c : Nat} : (⟨#[c]⟩ : Str) ≠ "" := fun e => by
  have := congrArg (fun z : Str => z.cps.toList.length) e
  exact absurd this (by show ¬ 1 = ("" : Str).cps.toList.length; decide +kernel)
theorem wd_swd {x : Str} (h : Sym x) : Wd (swd x) := by
  rcases h with rfl | ⟨c, rfl, hc⟩
  · rw [show swd "" = sDash from if_pos rfl]
    exact wd_of (by decide +kernel)
  · rw [show swd ⟨#[c]⟩ = ⟨#[c]⟩ from if_neg one_ne]
    refine ⟨(sym_tx (.inr ⟨c, rfl, hc⟩)).mono (by decide), Nat.le_refl _, fun z => ?_, fun z => ?_⟩
    · have z : 32 = c := by simpa using z
      subst z
      exact absurd hc (by decide)
    · have z : 10 = c := by simpa using z
      subst z
      exact absurd hc (by decide)
theorem swd_dash {x : Str} (h : Sym x) : (if swd x = sDash then ("" : Str) else swd x) = x := by
  rcases h with rfl | ⟨c, rfl, hc⟩
  · rw [show swd "" = sDash from if_pos rfl, if_pos rfl]
  · rw [show swd ⟨#[c]⟩ = ⟨#[c]⟩ from if_neg one_ne]
    refine if_neg fun e => ?_
    have := congrArg (fun z : Str => z.cps.toList) e
    have : [c] = sDash.cps.toList := this
    rw [show sDash.cps.toList = [45] by decide +kernel] at this
    have : c = 45 := by simpa using this
    subst this
    exact absurd hc (by decide)
/-- lists of words, of lines -/
theorem split_words {ws : List Str} (h0 : ws ≠ []) (h : ∀ x ∈ ws, Wd x) : Txt.split (Txt.join (" " : Str) ws) " " = ws :=
  TL.split_join (y := " ") (s := 32) (S := []) (by decide +kernel) (by decide +kernel) h0 fun p hp => (h p hp).2.2.1
theorem split_lines {ls : List Str} (h0 : ls ≠ []) (h : ∀ x ∈ ls, 10 ∉ x.cps.toList) : Txt.split (Txt.join ("\n" : Str) ls) "\n" = ls :=
  TL.split_join (y := "\n") (s := 10) (S := []) (by decide +kernel) (by decide +kernel) h0 fun p hp => h p hp
def spParse0 : Sp := fun vs H Q _ => ∃ x : Str, vs = [.str x, .int 0, .non] ∧ Tx 100000 x ∧ ∀ H', Same H H' → Q (oC x) H'
def spSymW : Sp := fun vs H Q _ => ∃ x : Str, vs = [.str x] ∧ Q (.str (swd x)) H
def spSymOf : Sp := fun vs H Q _ => ∃ x : Str, vs = [.str x] ∧ Q (.str (if x = sDash then "" else x)) H
def spNumW : Sp := fun vs H Q _ => ∃ o : Option Nat, vs = [oV o] ∧ oOk o ∧ Q (.str (oW o)) H
def spIsNumW : Sp := fun vs H Q _ => ∃ o : Option Nat, vs = [.str (oW o)] ∧ oOk o ∧ ∀ H', Same H H' → Q (.bl true) H'
section
variable {P : Program} {w : World} {K : PySem.W.Frag} {mg : Str → Option Value} {base : Heap}
abbrev sparse_count : Stmt := top 15
theorem scparse_count : FnScope ["text", "minimum", "maximum", "limit", "count"] ["text", "minimum", "maximum"] (defScope sparse_count) := ⟨rfl, rfl, rfl, by decide +kernel, rfl, by decide +kernel, by decide +kernel⟩
theorem ok_parse {f f1 f2 : Addr} {fd fd1 fd2 : FuncData} (F : Fun K "parse_count" "parse_count" sparse_count f fd) (T : Txt K mg base)
    (D_is_integer : Df P w K mg base CX0 1 "is_integer" f1 fd1 ["value"] spIsInt) (D_is_number : Df P w K mg base CX0 1 "is_number" f2 fd2 ["text"] spIsNum) :
    FnG P w K mg base CX0 2 f fd ["text", "minimum", "maximum"] spParse0 := by
  refine okG F scparse_count (fun vs H Q E h => ?_) (fun cdv A outer s H vs Q E hc hr h => ?_)
  · obtain ⟨t, rfl, _⟩ := h
    rfl
  obtain ⟨x, rfl, hx, q⟩ := h
  refine ⟨_, (pss_cons (ps_for (passes_of rfl) rfl (pi_tup (pe_tup (pa_cons (pv 1) (pa_cons (pv 2) pa_nil)))) (pg_name (i := 3) scparse_count.nd rfl (Or.inl rfl))
  (pss_one (ps_if (PW.pt (pw_and (pt_cmpR op_notN (pv 3) pe_non (nomark _)) (pw_and1 (pt_not (pt_val (pe_d D_is_integer hc (hr.mono (by decide)) (by rfl) (fun _ => passN) (pa_cons (pv 3) pa_nil)))))))
  (pss_one ps_never) pss_nil)))
 (pss_cons (ps_if (PW.pt (pw_or (pt_not (pt_val (pe_callB call_isk (by rfl) T.z_isinstance (by decide +kernel) (pa_cons (pv 0) (pa_cons (pe_bltn (v := .ty "str") (by rfl) T.z_str (by decide +kernel) rfl) pa_nil))))) (pw_or1 (pt_not (pt_val (pe_d D_is_number hc (hr.mono (by decide)) (by rfl) (fun _ => passN) (pa_cons (pv 0) pa_nil)))))))
  (pss_one (ps_ret pe_non)) pss_nil)
 (pss_cons (ps_set (i := 4) scparse_count.nd rfl (Or.inl rfl) (pe_callTy call_int_str (by rfl) T.z_int (by decide +kernel) (pa_cons (pv 0) pa_nil)))
 (pss_cons (ps_if (PW.pt (pw_and (pt_cmpR op_notN (pv 1) pe_non (nomark _)) (pw_and1 (pt_cmpR op_lt (pv 4) (pv 1) (nomark _)))))
  (pss_one (ps_ret pe_non)) pss_nil)
 (pss_cons (ps_if (PW.pt (pw_and (pt_cmpR op_notN (pv 2) pe_non (nomark _)) (pw_and1 (pt_cmpR op_gt (pv 4) (pv 2) (nomark _)))))
  (pss_one (ps_ret pe_non)) pss_nil)
 (pss_one (ps_ret (pv 4)))))))), ?_⟩
  refine ⟨_, rfl, _, rfl, by show 2 ≤ sizeLine; decide, fun p hp => ⟨p, rfl, ⟨_, SqT.of upd_same⟩, ?_⟩⟩
  have sp : Same H (upd H p (.tup [.int 0, .non])) := upd_new hp
  refine for_tup (K := K) (a := p) (xs := [.int 0, .non]) (fun i σ H1 => (∃ v, σ = [some (.str x), some (.int 0), some .non, v, none]) ∧ H1 = upd H p (.tup [.int 0, .non]))
    ⟨⟨none, rfl⟩, rfl⟩ (fun i σ H1 _ ⟨_, e⟩ => by rw [e]; exact SqT.of upd_same) ?_ ?_
  · rintro i y σ H1 hy ⟨⟨v, rfl⟩, rfl⟩
    match i, hy with
    | 0, hy =>
      cases hy
      refine ⟨_, rfl, rfl, _, rfl, iteT ?_⟩
      refine ⟨_, rfl, .int 0, rfl, (fun z => nomatch z), _, rfl, iteF ?_⟩
      exact ⟨⟨_, rfl⟩, rfl⟩
    | 1, hy =>
      cases hy
      refine ⟨_, rfl, rfl, _, rfl, iteF (iteF ?_)⟩
      exact ⟨⟨_, rfl⟩, rfl⟩
  · rintro σ H1 ⟨⟨v, rfl⟩, rfl⟩
    refine ⟨_, rfl, .str x, _, rfl, .inr (.inl rfl), (fun z => nomatch z), _, rfl, iteF ?_⟩
    refine ⟨_, rfl, x, rfl, hx.len, fun H2 s2 => ⟨_, rfl, ?_⟩⟩
    have r := q _ (sp.trans s2)
    unfold oC at r
    refine iteB (fun c => ?_) (fun c => ?_)
    · have : numV (.str x) = none := if_neg (by simpa using c)
      rw [this] at r
      exact r
    · have hn : nOk x.cps.toList = true := by simpa using c
      have en : numV (.str x) = some (valL x.cps.toList) := if_pos hn
      rw [en] at r
      have r : Q (if valL x.cps.toList < 0 then .non else .int (valL x.cps.toList)) H2 := r
      obtain ⟨i1, i2⟩ := K2.int_num hn
      refine ⟨_, rfl, x, _, rfl, i1, (by omega), ?_⟩
      refine ⟨_, rfl, rfl, _, rfl, iteT ?_⟩
      refine ⟨_, rfl, _, rfl, _, _, rfl, rfl, _, rfl, ?_⟩
      refine iteB (fun c1 => ?_) (fun c1 => ?_)
      · rw [if_pos (of_decide_eq_true c1)] at r
        exact r
      · rw [if_neg (of_decide_eq_false c1)] at r
        refine ⟨_, rfl, rfl, _, rfl, iteF (iteF ?_)⟩
        exact ⟨_, rfl, r⟩
abbrev ssymbol_word : Stmt := top 33
theorem scsymbol_word : FnScope ["symbol"] ["symbol"] (defScope ssymbol_word) := ⟨rfl, rfl, rfl, by decide +kernel, rfl, by decide +kernel, by decide +kernel⟩
theorem ok_symw {f : Addr} {fd : FuncData} (F : Fun K "symbol_word" "symbol_word" ssymbol_word f fd) (T : Txt K mg base) : FnG P w K mg base CX0 1 f fd ["symbol"] spSymW := by
  refine okG F scsymbol_word (fun vs H Q E h => ?_) (fun cdv A outer s H vs Q E hc hr h => ?_)
  · obtain ⟨x, rfl, _⟩ := h
    rfl
  obtain ⟨x, rfl, q⟩ := h
  refine ⟨_, (pss_one (ps_ret (pe_ifExp (pt_cmpR op_eq (pv 0) pe_str (nomark _)) (pe_k (by rfl) T.g_NO_SYMBOL) (pv 0)))), ?_⟩
  refine ⟨_, rfl, rfl, _, rfl, ?_⟩
  rw [show decide (V.str x = V.str (Str.ofString "")) = decide (x = "") from decide_eq_decide.mpr ⟨fun z => by injection z, fun z => by rw [z]⟩]
  refine iteB (fun c => ?_) (fun c => ?_)
  · rw [show swd x = sDash from if_pos (of_decide_eq_true c)] at q
    exact q
  · rw [show swd x = x from if_neg (of_decide_eq_false c)] at q
    exact ⟨_, rfl, q⟩
abbrev ssymbol_of : Stmt := top 35
theorem scsymbol_of : FnScope ["word"] ["word"] (defScope ssymbol_of) := ⟨rfl, rfl, rfl, by decide +kernel, rfl, by decide +kernel, by decide +kernel⟩
theorem ok_symof {f : Addr} {fd : FuncData} (F : Fun K "symbol_of" "symbol_of" ssymbol_of f fd) (T : Txt K mg base) : FnG P w K mg base CX0 1 f fd ["word"] spSymOf := by
  refine okG F scsymbol_of (fun vs H Q E h => ?_) (fun cdv A outer s H vs Q E hc hr h => ?_)
  · obtain ⟨x, rfl, _⟩ := h
    rfl
  obtain ⟨x, rfl, q⟩ := h
  refine ⟨_, (pss_one (ps_ret (pe_ifExp (pt_cmpR op_eq (pv 0) (pe_k (by rfl) T.g_NO_SYMBOL) (nomark _)) pe_str (pv 0)))), ?_⟩
  refine ⟨_, rfl, rfl, _, rfl, ?_⟩
  rw [show decide (V.str x = V.str sDash) = decide (x = sDash) from decide_eq_decide.mpr ⟨fun z => by injection z, fun z => by rw [z]⟩]
  refine iteB (fun c => ?_) (fun c => ?_)
  · rw [if_pos (of_decide_eq_true c)] at q
    exact q
  · rw [if_neg (of_decide_eq_false c)] at q
    exact ⟨_, rfl, q⟩
abbrev snumber_word : Stmt := top 34
theorem scnumber_word : FnScope ["number"] ["number"] (defScope snumber_word) := ⟨rfl, rfl, rfl, by decide +kernel, rfl, by decide +kernel, by decide +kernel⟩
theorem ok_numw {f : Addr} {fd : FuncData} (F : Fun K "number_word" "number_word" snumber_word f fd) (T : Txt K mg base) : FnG P w K mg base CX0 1 f fd ["number"] spNumW := by
  refine okG F scnumber_word (fun vs H Q E h => ?_) (fun cdv A outer s H vs Q E hc hr h => ?_)
  · obtain ⟨x, rfl, _⟩ := h
    rfl
  obtain ⟨o, rfl, ho, q⟩ := h
  refine ⟨_, (pss_one (ps_ret (pe_ifExp (pt_cmpR op_isN (pv 0) pe_non (nomark _)) (pe_k (by rfl) T.g_NO_NUMBER) (pe_callTy call_str_int (by rfl) T.z_str (by decide +kernel) (pa_cons (pv 0) pa_nil))))), ?_⟩
  refine ⟨_, rfl, rfl, _, rfl, ?_⟩
  cases o with
  | none => exact iteT q
  | some i =>
    exact iteF ⟨_, rfl, _, rfl, log_ok ho, q⟩
abbrev sis_number_word : Stmt := top 36
theorem scis_number_word : FnScope ["word"] ["word"] (defScope sis_number_word) := ⟨rfl, rfl, rfl, by decide +kernel, rfl, by decide +kernel, by decide +kernel⟩
theorem ok_isnumw {f f1 : Addr} {fd fd1 : FuncData} (F : Fun K "is_number_word" "is_number_word" sis_number_word f fd) (T : Txt K mg base)
    (D_parse_count_d : Dd P w K mg base CX0 2 "parse_count" f1 fd1 ["text", "minimum", "maximum"] [.int 0, .non] spParse0) : FnG P w K mg base CX0 3 f fd ["word"] spIsNumW := by
  refine okG F scis_number_word (fun vs H Q E h => ?_) (fun cdv A outer s H vs Q E hc hr h => ?_)
  · obtain ⟨x, rfl, _⟩ := h
    rfl
  obtain ⟨o, rfl, ho, q⟩ := h
  refine ⟨_, (pss_one (ps_ret (pe_or (pe_cmpR op_eq (pv 0) (pe_k (by rfl) T.g_NO_NUMBER) (nomark _)) (pe_one (pe_cmpR op_notN (pe_dd D_parse_count_d hc (hr.mono (by decide)) (by rfl) (fun _ => passN) (pa_cons (pv 0) pa_nil)) pe_non (nomark _)))))), ?_⟩
  refine ⟨_, rfl, rfl, _, rfl, ?_⟩
  refine iteB (fun c => ?_) (fun c => ?_)
  · exact q _ (Same.refl H)
  · refine ⟨_, rfl, oW o, rfl, (wd_oW ho).1.mono (by decide), fun H1 s1 => ?_⟩
    rw [oC_of o ho]
    cases o with
    | none => exact absurd rfl (of_decide_eq_false c)
    | some i => exact ⟨rfl, q _ s1⟩
end
end KW

namespace KW
open PySem L2 Gd Zn KM KP
abbrev jW (ws : List Str) : Str := PySem.Txt.join (" " : Str) ws
abbrev jL (ls : List Str) : Str := PySem.Txt.join ("\n" : Str) ls
theorem Lst.new {H : Hp} {p : Addr} {o : HO} (h : H p = none) : Same H (upd H p o) := upd_new h
/-- a line of words is short, it has no line end -/
theorem line_len {ws : List Str} (h : ∀ x ∈ ws, Wd x) (n : ws.length ≤ 100) : Tx 4100 (jW ws) :=
  (Tx.join (n := 40) (m := 1) (k := 100) (.of (by decide +kernel)) (fun y hy => (h y hy).1) n).mono (by decide)
theorem line_no {ws : List Str} (h : ∀ x ∈ ws, Wd x) : 10 ∉ (jW ws).cps.toList := fun z => by
  have z : 10 ∈ (PySem.Txt.join (" " : Str) ws).cps.toList := z
  rw [join_str] at z
  rcases join_mem _ z with z | ⟨y, hy, z⟩
  · exact absurd z (by decide +kernel)
  · exact (h y hy).2.2.2 z
theorem line_ne {ws : List Str} (h0 : ws ≠ []) (h : ∀ x ∈ ws, Wd x) : jW ws ≠ "" := fun e => by
  have s := split_words h0 h
  rw [show PySem.Txt.join (" " : Str) ws = "" from e] at s
  rw [show PySem.Txt.split ("" : Str) " " = [("" : Str)] by decide +kernel] at s
  have := (h "" (by rw [← s]; exact List.mem_singleton.mpr rfl)).2.1
  exact absurd this (by decide +kernel)
/-- the words of a line -/
def spWords : Sp := fun vs H Q _ => ∃ ws : List Str, vs = [.str (jW ws)] ∧ ws ≠ [] ∧ (∀ x ∈ ws, Wd x) ∧ ws.length ≤ 100 ∧ ∀ p, H p = none → Q (.ref p) (upd H p (.lst (ws.map V.str)))
/-- the lines of a text -/
def spLines : Sp := fun vs H Q _ => ∃ ls : List Str, vs = [.str (jL ls)] ∧ ls ≠ [] ∧ (∀ x ∈ ls, 10 ∉ x.cps.toList) ∧ (jL ls).length ≤ 16000000 ∧ ∀ p, H p = none → Q (.ref p) (upd H p (.lst (ls.map V.str)))
def spIsSym : Sp := fun vs H Q _ => ∃ x : Str, vs = [.str x, .str sAbc] ∧ Sym x ∧ ∀ H', Same H H' → Q (.bl true) H'
def spIsPair : Sp := fun vs H Q _ => ∃ (a : Addr) (x y : Str), vs = [.ref a, .str sAbc] ∧ H a = some (.tup [.str x, .str y]) ∧ Sym x ∧ Sym y ∧ 1 ≤ x.length + y.length ∧ ∀ H', Same H H' → Q (.bl true) H'
theorem abc_in : ∀ c : Nat, c < 128 → low c = true → decide (c ∈ sAbc.cps.toList) = true := by decide +kernel
theorem inV_no {ws : List Str} (h : ∀ x ∈ ws, Wd x) : inV (.str "") (ws.map V.str) = false := by
  refine List.any_eq_false.mpr fun v hv => ?_
  obtain ⟨x, hx, rfl⟩ := List.mem_map.mp hv
  intro z
  have z : x = "" := eq_of_beq (show (x == "") = true from z)
  have := (h x hx).2.1
  rw [z] at this
  exact absurd this (by decide +kernel)
section
variable {P : Program} {w : World} {K : PySem.W.Frag} {mg : Str → Option Value} {base : Heap}
abbrev s_law_spot : Stmt := top 57
theorem sc_law_spot : FnScope ["_law_sign"] ["_law_sign"] (defScope s_law_spot) := ⟨rfl, rfl, rfl, by decide +kernel, rfl, by decide +kernel, by decide +kernel⟩
theorem ok_spot {f : Addr} {fd : FuncData} (F : Fun K "_law_spot" "_law_spot" s_law_spot f fd) (T : Txt K mg base) : FnG P w K mg base CX0 1 f fd ["_law_sign"] spSymW := by
  refine okG F sc_law_spot (fun vs H Q E h => ?_) (fun cdv A outer s H vs Q E hc hr h => ?_)
  · obtain ⟨x, rfl, _⟩ := h
    rfl
  obtain ⟨x, rfl, q⟩ := h
  refine ⟨_, (pss_one (ps_ret (pe_ifExp (pt_cmpR op_eq (pv 0) pe_str (nomark _)) pe_str (pv 0)))), ?_⟩
  refine ⟨_, rfl, rfl, _, rfl, ?_⟩
  rw [show decide (V.str x = V.str (Str.ofString "")) = decide (x = "") from decide_eq_decide.mpr ⟨fun z => by injection z, fun z => by rw [z]⟩]
  refine iteB (fun c => ?_) (fun c => ?_)
  · rw [show swd x = sDash from if_pos (of_decide_eq_true c)] at q
    exact q
  · rw [show swd x = x from if_neg (of_decide_eq_false c)] at q
    exact ⟨_, rfl, q⟩
abbrev slines_of : Stmt := top 37
theorem sclines_of : FnScope ["text"] ["text"] (defScope slines_of) := ⟨rfl, rfl, rfl, by decide +kernel, rfl, by decide +kernel, by decide +kernel⟩
theorem ok_lines {f : Addr} {fd : FuncData} (F : Fun K "lines_of" "lines_of" slines_of f fd) (T : Txt K mg base) : FnG P w K mg base CX0 1 f fd ["text"] spLines := by
  refine okG F sclines_of (fun vs H Q E h => ?_) (fun cdv A outer s H vs Q E hc hr h => ?_)
  · obtain ⟨x, rfl, _⟩ := h
    rfl
  obtain ⟨ls, rfl, h0, h1, h2, q⟩ := h
  refine ⟨_, (pss_cons (ps_if (pt_not (pt_val (pe_callB call_isk (by rfl) T.z_isinstance (by decide +kernel) (pa_cons (pv 0) (pa_cons (pe_bltn (v := .ty "str") (by rfl) T.z_str (by decide +kernel) rfl) pa_nil)))))
  (pss_one ps_never) pss_nil)
 (pss_one (ps_ret (pe_split (pv 0) pe_str)))), ?_⟩
  refine ⟨_, rfl, _, _, rfl, .inr (.inl rfl), (fun z => nomatch z), _, rfl, iteF ?_⟩
  have z16 := sizeLine_eq
  refine ⟨_, rfl, ⟨_, rfl⟩, _, _, rfl, rfl, (by decide +kernel), (by omega), fun p hp => ?_⟩
  rw [show PySem.Txt.split (jL ls) "\n" = ls from split_lines h0 h1]
  exact q p hp
abbrev ssplit_words : Stmt := top 17
theorem scsplit_words : FnScope ["line", "words"] ["line"] (defScope ssplit_words) := ⟨rfl, rfl, rfl, by decide +kernel, rfl, by decide +kernel, by decide +kernel⟩
theorem ok_words {f : Addr} {fd : FuncData} (F : Fun K "split_words" "split_words" ssplit_words f fd) (T : Txt K mg base) : FnG P w K mg base CX0 1 f fd ["line"] spWords := by
  refine okG F scsplit_words (fun vs H Q E h => ?_) (fun cdv A outer s H vs Q E hc hr h => ?_)
  · obtain ⟨x, rfl, _⟩ := h
    rfl
  obtain ⟨ws, rfl, h0, h1, h2, q⟩ := h
  refine ⟨_, (pss_cons (ps_if (PW.pt (pw_or (pt_not (pt_val (pe_callB call_isk (by rfl) T.z_isinstance (by decide +kernel) (pa_cons (pv 0) (pa_cons (pe_bltn (v := .ty "str") (by rfl) T.z_str (by decide +kernel) rfl) pa_nil))))) (pw_or1 (pt_cmpR op_in_sign pe_str (pv 0) (by rfl)))))
  (pss_one ps_never) pss_nil)
 (pss_cons (ps_if (pt_cmpR op_eq (pv 0) pe_str (nomark _))
  (pss_one (ps_ret (pe_lst pa_nil))) pss_nil)
 (pss_cons (ps_set (i := 1) scsplit_words.nd rfl (Or.inl rfl) (pe_split (pv 0) pe_str))
 (pss_cons (ps_if (pt_cmpR op_in_seq pe_str (pv 1) (by rfl))
  (pss_one ps_never) pss_nil)
 (pss_one (ps_ret (pv 1))))))), ?_⟩
  have z16 := sizeLine_eq
  have ll := (line_len h1 h2).len
  refine ⟨_, rfl, _, _, rfl, .inr (.inl rfl), (fun z => nomatch z), _, rfl, iteF ?_⟩
  refine ⟨_, rfl, _, _, rfl, rfl, _, rfl, ?_⟩
  rw [show (decide ((UInt8.ofNat '\n'.val.toNat).toNat ∈ (jW ws).cps.toList)) = false from decide_eq_false (line_no h1)]
  refine iteF ⟨_, rfl, rfl, _, rfl, ?_⟩
  rw [show decide (V.str (jW ws) = V.str (Str.ofString "")) = false from decide_eq_false fun z => line_ne h0 h1 (by injection z)]
  refine iteF ⟨_, rfl, ⟨_, rfl⟩, _, _, rfl, rfl, (by decide +kernel), (by omega), fun p hp => ?_⟩
  rw [show PySem.Txt.split (jW ws) " " = ws from split_words h0 h1]
  refine ⟨_, rfl, p, _, rfl, .inl (SqL.of upd_same), rfl, ?_, _, rfl, ?_⟩
  · exact List.all_eq_true.mpr fun v hv => by
      obtain ⟨x, _, rfl⟩ := List.mem_map.mp hv
      rfl
  · rw [if_neg Bool.false_ne_true, inV_no h1]
    exact iteF ⟨_, rfl, q p hp⟩
abbrev srow_words : Stmt := top 38
theorem scrow_words : FnScope ["line"] ["line"] (defScope srow_words) := ⟨rfl, rfl, rfl, by decide +kernel, rfl, by decide +kernel, by decide +kernel⟩
theorem ok_row {f f1 C_L f_L : Addr} {fd fd1 : FuncData} (F : Fun K "row_words" "row_words" srow_words f fd) (T : Txt K mg base) (TL : PySem.EzValue.LowTxt K mg "InvalidLine" "InvalidLine.__init__" C_L f_L)
    (D_split_words : Df P w K mg base CX0 1 "split_words" f1 fd1 ["line"] spWords) : FnG P w K mg base CX0 2 f fd ["line"] spWords := by
  refine okG F scrow_words (fun vs H Q E h => ?_) (fun cdv A outer s H vs Q E hc hr h => ?_)
  · obtain ⟨x, rfl, _⟩ := h
    rfl
  obtain ⟨ws, rfl, h⟩ := h
  refine ⟨_, (pss_one (ps_tryG rfl rfl scrow_words.nd (fun W pn xe tk _ => (pss_one (ps_ret (pe_d D_split_words hc (hr.mono (by decide)) (by rfl) (fun _ => passN) (pa_cons (pv 0) pa_nil))))) (HdG.bare ⟨rfl, by decide, .inl TL.gC⟩ (fun a oe cls d pn hz hf => (pss_one (ps_ret (pe_lst pa_nil)))) (HdG.stop _)))), ?_⟩
  exact ⟨_, rfl, ws, rfl, h⟩
abbrev sis_symbol : Stmt := top 19
theorem scis_symbol : FnScope ["value", "alphabet"] ["value", "alphabet"] (defScope sis_symbol) := ⟨rfl, rfl, rfl, by decide +kernel, rfl, by decide +kernel, by decide +kernel⟩
theorem ok_issym {f f1 : Addr} {fd fd1 : FuncData} (F : Fun K "is_symbol" "is_symbol" sis_symbol f fd) (T : Txt K mg base)
    (D_is_letter : Df P w K mg base CX0 1 "is_letter" f1 fd1 ["value"] (spAsk isLet)) : FnG P w K mg base CX0 2 f fd ["value", "alphabet"] spIsSym := by
  refine okG F scis_symbol (fun vs H Q E h => ?_) (fun cdv A outer s H vs Q E hc hr h => ?_)
  · obtain ⟨x, rfl, _⟩ := h
    rfl
  obtain ⟨x, rfl, hx, q⟩ := h
  refine ⟨_, (pss_one (ps_ret (pe_or (pe_cmpR op_eq (pv 0) pe_str (nomark _)) (pe_one (pe_and (pe_d D_is_letter hc (hr.mono (by decide)) (by rfl) (fun _ => passN) (pa_cons (pv 0) pa_nil)) (pe_one (pe_cmpR op_in_sign (pv 0) (pv 1) (by rfl)))))))), ?_⟩
  refine ⟨_, rfl, rfl, _, rfl, ?_⟩
  rcases hx with rfl | ⟨c, rfl, hl⟩
  · exact iteT (q _ (Same.refl H))
  · rw [show decide (V.str ⟨#[c]⟩ = V.str (Str.ofString "")) = false from decide_eq_false fun z => one_ne (by injection z)]
    refine iteF ⟨_, rfl, _, rfl, (fun z => nomatch z), fun y hy => ?_, fun H1 s1 => ⟨_, rfl, ?_⟩⟩
    · cases hy
      exact (sym_tx (.inr ⟨c, rfl, hl⟩)).mono (by decide)
    · have e : isLet (.str ⟨#[c]⟩) = true := by
        show (true && (low c && true)) = true
        rw [hl]
        rfl
      rw [e]
      refine iteT ⟨_, rfl, _, rfl, c, _, rfl, rfl, ?_⟩
      have hc : c < 128 := by
        unfold low at hl
        rw [Bool.and_eq_true, decide_eq_true_eq, decide_eq_true_eq] at hl
        omega
      rw [abc_in c hc hl]
      exact q _ s1
abbrev sis_pair : Stmt := top 20
theorem scis_pair : FnScope ["value", "alphabet", "source", "target"] ["value", "alphabet"] (defScope sis_pair) := ⟨rfl, rfl, rfl, by decide +kernel, rfl, by decide +kernel, by decide +kernel⟩
theorem ok_ispair {f f1 : Addr} {fd fd1 : FuncData} (F : Fun K "is_pair" "is_pair" sis_pair f fd) (T : Txt K mg base)
    (D_is_symbol : Df P w K mg base CX0 2 "is_symbol" f1 fd1 ["value", "alphabet"] spIsSym) : FnG P w K mg base CX0 3 f fd ["value", "alphabet"] spIsPair := by
  refine okG F scis_pair (fun vs H Q E h => ?_) (fun cdv A outer s H vs Q E hc hr h => ?_)
  · obtain ⟨a, x, y, rfl, _⟩ := h
    rfl
  obtain ⟨a, x, y, rfl, ha, hx, hy, hl, q⟩ := h
  refine ⟨_, (pss_cons (ps_if (PW.pt (pw_or (pt_not (pt_val (pe_callB call_isk (by rfl) T.z_isinstance (by decide +kernel) (pa_cons (pv 0) (pa_cons (pe_bltn (v := .ty "tuple") (by rfl) T.z_tuple (by decide +kernel) rfl) pa_nil))))) (pw_or1 (pt_cmpR op_ne (pe_callB call_len_seq (by rfl) T.z_len (by decide +kernel) (pa_cons (pv 0) pa_nil)) pe_int (nomark _)))))
  (pss_one (ps_ret pe_bl)) pss_nil)
 (pss_cons (ps_asg (pv 0) (pg_tup (by rfl) (pgs_cons (pg_name (i := 2) scis_pair.nd rfl (Or.inl rfl)) (pgs_cons (pg_name (i := 3) scis_pair.nd rfl (Or.inl rfl)) pgs_nil))))
 (pss_one (ps_ret (pe_and (pe_d D_is_symbol hc (hr.mono (by decide)) (by rfl) (fun _ => passN) (pa_cons (pv 2) (pa_cons (pv 1) pa_nil))) (pe_and (pe_d D_is_symbol hc (hr.mono (by decide)) (by rfl) (fun _ => passN) (pa_cons (pv 3) (pa_cons (pv 1) pa_nil))) (pe_one (pe_cmpR op_gt (pe_op op_add (pe_callB call_len_str (by rfl) T.z_len (by decide +kernel) (pa_cons (pv 2) pa_nil)) (pe_callB call_len_str (by rfl) T.z_len (by decide +kernel) (pa_cons (pv 3) pa_nil))) pe_int (nomark _))))))))), ?_⟩
  have ek : kind H (.ref a) = .tup := by
    show kindO (H a) = .tup
    rw [ha]
    rfl
  refine ⟨_, rfl, .ref a, _, rfl, .inr (.inr (.inr (.inr (.inl rfl)))), by unfold Pv; rw [ek]; exact (fun z => nomatch z), _, rfl, ?_⟩
  rw [ek]
  refine iteF ⟨_, rfl, a, _, rfl, .inr (SqT.of ha), rfl, _, rfl, iteF ?_⟩
  refine ⟨_, rfl, a, _, rfl, SqT.of ha, rfl, _, _, rfl, _, _, rfl, rfl, ?_⟩
  refine ⟨_, rfl, _, rfl, x, rfl, hx, fun H1 s1 => ⟨_, rfl, iteT ?_⟩⟩
  refine ⟨_, rfl, _, rfl, y, rfl, hy, fun H2 s2 => ⟨_, rfl, iteT ?_⟩⟩
  have z16 := sizeLine_eq
  have lx := (sym_tx hx).len
  have ly := (sym_tx hy).len
  refine ⟨_, rfl, x, rfl, by omega, _, rfl, y, rfl, by omega, _, _, rfl, rfl, _, _, rfl, rfl, ?_⟩
  show Q (.bl (decide ((0 : Int) < (x.length : Nat) + (y.length : Nat)))) H2
  rw [decide_eq_true (by omega)]
  exact q _ (s1.trans s2)
/-- the head of a text: a word and a number -/
def spHead : Sp := fun vs H Q _ => ∃ (p : Addr) (k : Str) (n : Nat) (r : List Str), vs = [.ref p, .str k] ∧ H p = some (.lst ((jW [k, nw n] :: r).map V.str)) ∧ Wd k ∧ n < 1000000000000000000000000000000 ∧ ∀ H', Same H H' → Q (.int (n : Nat)) H'
/-- a row of two signs -/
def spPairRow : Sp := fun vs H Q _ => ∃ (p : Addr) (x y : Str), vs = [.ref p] ∧ H p = some (.lst [.str (swd x), .str (swd y)]) ∧ Sym x ∧ Sym y ∧ 1 ≤ x.length + y.length ∧ ∀ a H', Same H H' → H a = none → H' a = some (.tup [.str x, .str y]) → Q (.ref a) H'
abbrev sheader_count : Stmt := top 39
theorem scheader_count : FnScope ["lines", "kind", "words"] ["lines", "kind"] (defScope sheader_count) := ⟨rfl, rfl, rfl, by decide +kernel, rfl, by decide +kernel, by decide +kernel⟩
theorem ok_head {f f1 f2 : Addr} {fd fd1 fd2 : FuncData} (F : Fun K "header_count" "header_count" sheader_count f fd) (T : Txt K mg base)
    (D_row_words : Df P w K mg base CX0 2 "row_words" f1 fd1 ["line"] spWords)
    (D_parse_count_d : Dd P w K mg base CX0 2 "parse_count" f2 fd2 ["text", "minimum", "maximum"] [.int 0, .non] spParse0) : FnG P w K mg base CX0 3 f fd ["lines", "kind"] spHead := by
  refine okG F scheader_count (fun vs H Q E h => ?_) (fun cdv A outer s H vs Q E hc hr h => ?_)
  · obtain ⟨p, k, n, r, rfl, _⟩ := h
    rfl
  obtain ⟨p, k, n, r, rfl, hp, hk, hn, q⟩ := h
  refine ⟨_, (pss_cons (ps_set (i := 2) scheader_count.nd rfl (Or.inl rfl) (pe_d D_row_words hc (hr.mono (by decide)) (by rfl) (fun _ => passN) (pa_cons (pe_ix ix_list (pv 0) pe_int (fun _ _ => rfl)) pa_nil)))
 (pss_cons (ps_if (PW.pt (pw_or (pt_cmpR op_ne (pe_callB call_len_seq (by rfl) T.z_len (by decide +kernel) (pa_cons (pv 2) pa_nil)) pe_int (nomark _)) (pw_or (pt_cmpR op_ne (pe_ix ix_list (pv 2) pe_int (fun _ _ => rfl)) (pv 1) (nomark _)) (pw_or1 (pt_cmpR op_isN (pe_dd D_parse_count_d hc (hr.mono (by decide)) (by rfl) (fun _ => passN) (pa_cons (pe_ix ix_list (pv 2) pe_int (fun _ _ => rfl)) pa_nil)) pe_non (nomark _))))))
  (pss_one ps_never) pss_nil)
 (pss_one (ps_ret (pe_dd D_parse_count_d hc (hr.mono (by decide)) (by rfl) (fun _ => passN) (pa_cons (pe_ix ix_list (pv 2) pe_int (fun _ _ => rfl)) pa_nil)))))), ?_⟩
  refine ⟨_, rfl, p, _, _, _, rfl, rfl, SqL.of hp, atI_nat (j := 0) rfl, [k, nw n], rfl, (fun z => nomatch z), fun x hx => ?_, (show 2 ≤ 100 by decide), fun p1 h1 => ?_⟩
  · rcases List.mem_cons.mp hx with rfl | hx
    · exact hk
    · obtain rfl := List.mem_singleton.mp hx
      exact wd_nw hn
  have s1 : Same H (upd H p1 (.lst [.str k, .str (nw n)])) := upd_new h1
  have tn : Tx 100000 (nw n) := (nw_tx hn).mono (by decide)
  have on : oC (nw n) = .int (n : Nat) := oC_of (some n) hn
  refine ⟨_, rfl, p1, _, rfl, .inl (SqL.of upd_same), rfl, _, rfl, iteF ?_⟩
  refine ⟨_, rfl, p1, _, _, _, rfl, rfl, SqL.of upd_same, atI_nat (j := 0) rfl, _, rfl, rfl, _, rfl, ?_⟩
  rw [show decide (V.str k = V.str k) = true from decide_eq_true rfl]
  refine iteF ⟨_, rfl, p1, _, _, _, rfl, rfl, SqL.of upd_same, atI_nat (j := 1) rfl, nw n, rfl, tn, fun H2 s2 => ?_⟩
  rw [on]
  refine ⟨rfl, _, rfl, iteF ⟨_, rfl, p1, _, _, _, rfl, rfl, SqL.of (s2 _ _ upd_same), atI_nat (j := 1) rfl, nw n, rfl, tn, fun H3 s3 => ?_⟩⟩
  rw [on]
  exact q _ (s1.trans (s2.trans s3))
abbrev spair_row : Stmt := top 43
theorem scpair_row : FnScope ["words", "pair", "word"] ["words"] (defScope spair_row) := ⟨rfl, rfl, rfl, by decide +kernel, rfl, by decide +kernel, by decide +kernel⟩
theorem ok_pairrow {f f1 f2 : Addr} {fd fd1 fd2 : FuncData} (F : Fun K "pair_row" "pair_row" spair_row f fd) (T : Txt K mg base)
    (D_symbol_of : Df P w K mg base CX0 1 "symbol_of" f1 fd1 ["word"] spSymOf) (D_is_pair : Df P w K mg base CX0 3 "is_pair" f2 fd2 ["value", "alphabet"] spIsPair) : FnG P w K mg base CX0 4 f fd ["words"] spPairRow := by
  refine okG F scpair_row (fun vs H Q E h => ?_) (fun cdv A outer s H vs Q E hc hr h => ?_)
  · obtain ⟨p, x, y, rfl, _⟩ := h
    rfl
  obtain ⟨p, x, y, rfl, hp, hx, hy, hl, q⟩ := h
  refine ⟨_, (pss_cons (ps_set (i := 1) scpair_row.nd rfl (Or.inl rfl) (pe_callTy call_tuple_of (by rfl) T.z_tuple (by decide +kernel) (pa_cons (pe_lc (own := [("word", 2)]) (g := gName 2) rfl scpair_row.nd (pi_list (pv 0)) (blkOk_by (N := ["words", "pair", "word"]) (sc := defScope spair_row) (by decide +kernel)) (fun _ _ _ _ _ => pg_name (i := 2) scpair_row.nd rfl (Or.inl rfl)) (fun _ _ _ _ _ => pts_nil) (fun _ _ _ _ _ => (pe_d D_symbol_of hc (hr.mono (by decide)) (by rfl) (fun _ => passN) (pa_cons (pv 2) pa_nil)))) pa_nil)))
 (pss_one (ps_ret (pe_ifExp (pt_val (pe_d D_is_pair hc (hr.mono (by decide)) (by rfl) (fun _ => passN) (pa_cons (pv 1) (pa_cons (pe_k (by rfl) T.g_LETTERS) pa_nil)))) (pv 1) pe_non)))), ?_⟩
  refine ⟨_, rfl, p, rfl, ⟨_, SqL.of hp⟩, fun D hD => ?_⟩
  refine lc_list (xs := [.str (swd x), .str (swd y)]) (fun i H' => H' D = some (.lst ([V.str x, .str y].take i)) ∧ Same H H') ⟨upd_same, upd_new hD⟩ (fun i H' _ ⟨_, s⟩ => SqL.of (s _ _ hp)) ?_ ?_
  · rintro i v Hh hv ⟨g1, g2⟩
    have put : ∀ {o : HO}, Same H (upd Hh D o) := fun {o} c u h => by
      rw [upd_ne (ne_of_none h hD)]
      exact g2 _ _ h
    match i, hv with
    | 0, hv =>
      cases hv
      refine ⟨wipe1 _ _ _, yes_go ⟨_, rfl, swd x, rfl, ?_⟩⟩
      rw [swd_dash hx]
      exact ⟨_, g1, (by show 0 < sizeLine; decide), upd_same, put⟩
    | 1, hv =>
      cases hv
      refine ⟨wipe1 _ _ _, yes_go ⟨_, rfl, swd y, rfl, ?_⟩⟩
      rw [swd_dash hy]
      exact ⟨_, g1, (by show 1 < sizeLine; decide), upd_same, put⟩
  rintro H1 ⟨g1, g2⟩
  refine ⟨D, _, rfl, .inl ⟨SqL.of g1, fun a ha => ?_⟩⟩
  have hn : H a = none := by
    cases e : H a with
    | none => rfl
    | some o => rw [g2 _ _ e] at ha; exact nomatch ha
  have s1 : Same H (upd H1 a (.tup [.str x, .str y])) := g2.trans (upd_new ha)
  refine ⟨_, rfl, a, x, y, rfl, upd_same, hx, hy, hl, fun H2 s2 => ?_⟩
  exact ⟨_, rfl, iteT ⟨_, rfl, q a H2 (s1.trans s2) hn (s2 _ _ upd_same)⟩⟩
end
end KW

namespace KW
open PySem L2 Gd Zn KM KP
abbrev sScr : Str := "script"
def PrOk (x y : Str) : Prop := Sym x ∧ Sym y ∧ 1 ≤ x.length + y.length
/-- pairs in the heap -/
inductive PrAt (H : Hp) : List V → List (Str × Str) → Prop
  | nil : PrAt H [] []
  | cons {a : Addr} {vs : List V} {x y : Str} {l : List (Str × Str)} : H a = some (.tup [.str x, .str y]) → PrAt H vs l → PrAt H (.ref a :: vs) ((x, y) :: l)
theorem PrAt.same {H H' : Hp} (e : Same H H') : ∀ {vs : List V} {l : List (Str × Str)}, PrAt H vs l → PrAt H' vs l
  | _, _, .nil => .nil
  | _, _, .cons h r => .cons (e _ _ h) (PrAt.same e r)
theorem PrAt.len {H : Hp} : ∀ {vs : List V} {l : List (Str × Str)}, PrAt H vs l → vs.length = l.length
  | _, _, .nil => rfl
  | _, _, .cons _ r => by rw [List.length_cons, List.length_cons, r.len]
theorem PrAt.get {H : Hp} : ∀ {vs : List V} {l : List (Str × Str)} {i : Nat} {v : V}, PrAt H vs l → vs[i]? = some v → ∃ a x y, v = .ref a ∧ l[i]? = some (x, y) ∧ H a = some (.tup [.str x, .str y])
  | _, _, 0, _, .cons h _, e => by
    injection e with e
    exact ⟨_, _, _, e.symm, rfl, h⟩
  | _, _, i + 1, _, .cons _ r, e => PrAt.get (i := i) r e
theorem join_two (a b : Str) : jW [a, b] = a ++ " " ++ b := by
  show PySem.Txt.join (" " : Str) [a, b] = _
  rw [join_str]
  rfl
theorem app_len (x y : Str) : (x ++ y).length = x.length + y.length := by rw [len_list, len_list, len_list, app_list, List.length_append]
def scLine (p : Str × Str) : Str := jW [swd p.1, swd p.2]
def scText (l : List (Str × Str)) : Str := jL (jW [sScr, nw l.length] :: l.map scLine)
theorem wd_scr : Wd sScr := wd_of (by decide +kernel)
theorem scLine_tx {p : Str × Str} (h : PrOk p.1 p.2) : Tx 4100 (scLine p) :=
  line_len (fun x hx => by
    rcases List.mem_cons.mp hx with rfl | hx
    · exact wd_swd h.1
    · obtain rfl := List.mem_singleton.mp hx
      exact wd_swd h.2.1) (show 2 ≤ 100 by decide)
theorem head_wd {k : Str} {n : Nat} (hk : Wd k) (hn : n < 1000000000000000000000000000000) : ∀ x ∈ [k, nw n], Wd x := fun x hx => by
  rcases List.mem_cons.mp hx with rfl | hx
  · exact hk
  · obtain rfl := List.mem_singleton.mp hx
    exact wd_nw hn
theorem sc_sum {l : List (Str × Str)} (ho : ∀ q ∈ l, PrOk q.1 q.2) (hl : l.length ≤ 3500) : ((jW [sScr, nw l.length] :: l.map scLine).map fun x => x.length).sum + (jW [sScr, nw l.length] :: l.map scLine).length * (Str.ofString "\n").length ≤ 16777216 := by
  have h1 : ∀ x ∈ ((jW [sScr, nw l.length] :: l.map scLine).map fun x => x.length), x ≤ 4100 := fun x hx => by
    obtain ⟨z, hz, rfl⟩ := List.mem_map.mp hx
    rcases List.mem_cons.mp hz with rfl | hz
    · exact (line_len (head_wd wd_scr (by omega)) (show 2 ≤ 100 by decide)).len
    · obtain ⟨q, hq, rfl⟩ := List.mem_map.mp hz
      exact (scLine_tx (ho q hq)).len
  have h2 := sum_le h1
  rw [List.length_map, List.length_cons, List.length_map] at h2
  rw [List.length_cons, List.length_map, show (Str.ofString "\n").length = 1 by decide +kernel]
  omega
/-- the text of pairs -/
def spWrS : Sp := fun vs H Q _ => ∃ (b : Bool) (p : Addr) (us : List V) (l : List (Str × Str)), vs = [.ref p] ∧ H p = some (so b us) ∧ PrAt H us l ∧ (∀ q ∈ l, PrOk q.1 q.2) ∧ l.length ≤ 3500 ∧ ∀ H', Same H H' → Q (.str (scText l)) H'
section
variable {P : Program} {w : World} {K : PySem.W.Frag} {mg : Str → Option Value} {base : Heap}
abbrev swrite_script : Stmt := top 41
theorem scwrite_script : FnScope ["script", "lines", "source", "target", "pair"] ["script"] (defScope swrite_script) := ⟨rfl, rfl, rfl, by decide +kernel, rfl, by decide +kernel, by decide +kernel⟩
theorem ok_wrs {f f1 f2 f3 : Addr} {fd fd1 fd2 fd3 : FuncData} (F : Fun K "write_script" "write_script" swrite_script f fd) (T : Txt K mg base)
    (D_is_list : Df P w K mg base CX0 1 "is_list" f1 fd1 ["value"] spIsList) (D_is_pair : Df P w K mg base CX0 3 "is_pair" f2 fd2 ["value", "alphabet"] spIsPair)
    (D_symbol_word : Df P w K mg base CX0 1 "symbol_word" f3 fd3 ["symbol"] spSymW) : FnG P w K mg base CX0 4 f fd ["script"] spWrS := by
  refine okG F scwrite_script (fun vs H Q E h => ?_) (fun cdv A outer s H vs Q E hc hr h => ?_)
  · obtain ⟨b, p, us, l, rfl, _⟩ := h
    rfl
  obtain ⟨b, p, us, l, rfl, hp, hu, ho, hl, q⟩ := h
  refine ⟨_, (pss_cons (ps_if (PW.pt (pw_or (pt_not (pt_val (pe_d D_is_list hc (hr.mono (by decide)) (by rfl) (fun _ => passN) (pa_cons (pv 0) pa_nil)))) (pw_or1 (pt_not (pt_val (pe_callB (cr_all rfl) (by rfl) T.z_all (by decide +kernel) (pa_cons (pe_lc (own := [("pair", 4)]) (g := gName 4) rfl scwrite_script.nd (pi_sq (pv 0)) (blkOk_by (N := ["script", "lines", "source", "target", "pair"]) (sc := defScope swrite_script) (by decide +kernel)) (fun _ _ _ _ _ => pg_name (i := 4) scwrite_script.nd rfl (Or.inl rfl)) (fun _ _ _ _ _ => pts_nil) (fun _ _ _ _ _ => (pe_d D_is_pair hc (hr.mono (by decide)) (by rfl) (fun _ => passN) (pa_cons (pv 4) (pa_cons (pe_k (by rfl) T.g_LETTERS) pa_nil))))) pa_nil)))))))
  (pss_one ps_never) pss_nil)
 (pss_cons (ps_setLc (i := 1) (own := [("source", 2), ("target", 3)]) (g := _) rfl scwrite_script.nd rfl rfl (sw_true rfl rfl rfl (by decide +kernel)) (pi_sq (pv 0)) (blkOk_by (N := ["script", "lines", "source", "target", "pair"]) (sc := defScope swrite_script) (by decide +kernel)) (fun _ _ _ _ _ => (pg_tupK (K := K) (n := 2) rfl rfl (pgs_cons (pg_name (i := 2) scwrite_script.nd rfl (Or.inl rfl)) (pgs_cons (pg_name (i := 3) scwrite_script.nd rfl (Or.inl rfl)) pgs_nil)))) (fun _ _ _ _ _ => pts_nil) (fun _ _ _ _ _ => (pe_joined (PJ.cons (pe_fmt (pe_d D_symbol_word hc (hr.mono (by decide)) (by rfl) (fun _ => passN) (pa_cons (pv 2) pa_nil))) (PJ.cons pe_str (PJ.cons (pe_fmt (pe_d D_symbol_word hc (hr.mono (by decide)) (by rfl) (fun _ => passN) (pa_cons (pv 3) pa_nil))) PJ.nil))))))
 (pss_one (ps_ret (pe_join pe_str (pe_op op_cat (pe_lst (pa_cons (pe_joined (PJ.cons pe_str (PJ.cons (pe_fmt (pe_callB call_len_seq (by rfl) T.z_len (by decide +kernel) (pa_cons (pv 1) pa_nil))) PJ.nil))) pa_nil)) (pv 1))))))), ?_⟩
  have lu := hu.len
  have z16 := sizeLine_eq
  refine ⟨_, rfl, b, p, _, rfl, hp, fun H1 s1 => ⟨_, rfl, iteF ?_⟩⟩
  refine ⟨_, rfl, b, p, _, rfl, so_sq (s1 _ _ hp), fun D hD => ?_⟩
  refine lc_it walk_sq (fun i H' => Vls H1 D ((us.take i).map fun _ => V.bl true) H') (Vls.nil hD) (fun i H' _ v => so_sq (v.same _ _ (s1 _ _ hp))) ?_ ?_
  · rintro i v H2 _ hi vl ⟨rfl, hx⟩
    obtain ⟨a, x, y, rfl, e1, e2⟩ := hu.get hx
    have ok := ho (x, y) (List.mem_of_getElem? e1)
    refine ⟨rfl, yes_go ?_⟩
    refine ⟨_, rfl, a, x, y, rfl, vl.same _ _ (s1 _ _ e2), ok.1, ok.2.1, ok.2.2, fun H3 s3 => ?_⟩
    rw [take_succ hx, List.map_append]
    exact (vl.ext s3).add (y := V.bl true) (by rw [List.length_map, List.length_take]; omega)
  intro H2 vl
  rw [List.take_length] at vl
  refine ⟨D, us.map fun _ => true, rfl, SqL.of (by rw [List.map_map]; exact vl.at_), _, rfl, ?_⟩
  have ea : (us.map fun _ => true).all id = true := by simp
  rw [ea]
  refine iteF ?_
  have s2 : Same H H2 := s1.trans vl.same
  refine ⟨_, rfl, b, p, _, rfl, so_sq (s2 _ _ hp), fun D2 hD2 => ?_⟩
  refine lc_it (g := gTup K 2 (gCons (gName 2) (gCons (gName 3) gNil))) (tt := tYes) (te := fun σ H Q => tJs [tFmt (tCallG spSymW [] (fun x => E0) (tCons (tVar 2) tNil)), tC (V.str (Str.ofString " ")), tFmt (tCallG spSymW [] (fun x => E0) (tCons (tVar 3) tNil))] Str.empty σ H fun out H1 => Q (V.str out) H1) (vs := [2, 3]) walk_sq (fun i H' => Vls H2 D2 (((l.map scLine).take i).map V.str) H') (Vls.nil hD2) (fun i H' _ v => so_sq (v.same _ _ (s2 _ _ hp))) ?_ ?_
  · rintro i v H3 _ hi vl3 ⟨rfl, hx⟩
    obtain ⟨a, x, y, rfl, e1, e2⟩ := hu.get hx
    have ok : PrOk x y := ho (x, y) (List.mem_of_getElem? e1)
    refine ⟨a, _, rfl, SqT.of (vl3.same _ _ (s2 _ _ e2)), rfl, _, _, rfl, _, _, rfl, rfl, rfl, yes_go ?_⟩
    have tx := (wd_swd ok.1).1.len
    have ty := (wd_swd ok.2.1).1.len
    have el : (l.map scLine)[i]? = some (scLine (x, y)) := by rw [List.getElem?_map, e1]; rfl
    have e0 : ∀ z : Str, Str.empty ++ z = z := fun z => str_ext (by rw [app_list]; rfl)
    have l1 : (" " : Str).length = 1 := by decide +kernel
    refine ⟨_, rfl, x, rfl, .inl ⟨_, rfl, by omega, ?_⟩⟩
    refine ⟨_, rfl, ?_, _, rfl, ?_, _, rfl, y, rfl, .inl ⟨_, rfl, by omega, _, rfl, ?_, ?_⟩⟩
    · rw [e0]; omega
    · rw [e0, app_len]; omega
    · rw [e0, app_len, app_len]; omega
    · show ∃ acc, _ ∧ _ ∧ Vls _ _ _ (upd _ D2 (.lst (acc ++ [V.str (Str.empty ++ swd x ++ " " ++ swd y)])))
      rw [take_succ el, List.map_append, e0]
      have := vl3.add (y := V.str (scLine (x, y))) (by rw [List.length_map, List.length_take]; omega)
      rw [show scLine (x, y) = swd x ++ " " ++ swd y from join_two _ _] at this ⊢
      exact this
  intro H3 vl3
  rw [lu, List.take_of_length_le (by rw [List.length_map]; exact Nat.le_refl _)] at vl3
  have hn : l.length < 1000000000000000000000000000000 := by omega
  have ln := (nw_tx hn).len
  have e0 : ∀ z : Str, Str.empty ++ z = z := fun z => str_ext (by rw [app_list]; rfl)
  have l7 : ("script " : Str).length = 7 := by decide +kernel
  refine ⟨⟨_, rfl⟩, ?_⟩
  refine ⟨_, rfl, ?_, _, rfl, D2, _, rfl, .inl (SqL.of vl3.at_), .inr ⟨_, rfl, ?_, _, rfl, ?_, ?_⟩⟩
  · rw [e0]; omega
  · rw [List.length_map, List.length_map]; exact log_ok hn
  · rw [List.length_map, List.length_map, e0, app_len, show (Str.ofString (toString ((l.length : Nat) : Int))).length = (nw l.length).length from rfl]; omega
  have eh : Str.empty ++ Str.ofString "script " ++ Str.ofString (toString (((l.map scLine).map V.str).length : Int)) = jW [sScr, nw l.length] := by
    rw [List.length_map, List.length_map, e0, join_two]
    rfl
  show tJs [] (Str.empty ++ Str.ofString "script " ++ Str.ofString (toString (((l.map scLine).map V.str).length : Int))) _ _ _
  rw [eh]
  refine ⟨by show 1 ≤ sizeLine; decide, fun p1 h1 => ⟨_, rfl, p1, D2, _, _, rfl, rfl, upd_same, upd_new h1 _ _ vl3.at_, ?_, fun p2 h2 => ⟨_, p2, jW [sScr, nw l.length] :: l.map scLine, rfl, rfl, .inl (SqL.of upd_same), ?_, ?_⟩⟩⟩
  · rw [List.length_map, List.length_map]
    show 1 + l.length ≤ sizeLine
    omega
  · exact sc_sum ho hl
  · exact q _ (s2.trans (vl3.same.trans ((upd_new h1).trans (upd_new h2))))
end
end KW

namespace KW
open PySem L2 Gd Zn KM KP
theorem no_fn {P : Program} {w : World} {K : PySem.W.Frag} {mg : Str → Option Value} {base : Heap} {CX : CXT} {k : Nat} {f : Addr} {fd : FuncData} {ps : List Str} {sp : Sp} (h : ∀ vs H Q E, ¬ sp vs H Q E) : FnG P w K mg base CX k f fd ps sp :=
  ⟨fun vs H Q E z => absurd z (h vs H Q E), fun A outer s H args us vs Q E hc hr e0 hb r z => absurd z (h vs H Q E)⟩
def spIsLetP : Sp := fun vs H Q _ => ∃ v, vs = [v] ∧ Pv H v ∧ (∀ x, v = .str x → x.length ≤ 1000) ∧ Q (.bl (isLet v)) H
def spW (m : Nat) : Sp := fun vs H Q _ => ∃ (b : Bool) (v : V) (l : List Pt) (r : Int) (N : Nat), vs = [v, .int r] ∧ LiAt H b v l ∧ Good N m l ∧ (deps l : Int) ≤ r ∧ N ≤ 5000 ∧ ∀ H', Same H H' → Q (.bl true) H'
/-- a good pattern of lists or of tuples -/
def GoodAt (H : Hp) (v : V) (l : List Pt) : Prop := ∃ b, LiAt H b v l ∧ Good 5000 100 l
def spIsP : Sp := fun vs H Q _ => ∃ v l, vs = [v] ∧ GoodAt H v l ∧ ∀ H', Same H H' → Q (.bl true) H'
def spReqP : Sp := fun vs H Q _ => ∃ v l, vs = [v] ∧ GoodAt H v l ∧ ∀ H', Same H H' → Q .non H'
theorem kind_tup {H : Hp} {a : Addr} {xs : List V} (h : H a = some (.tup xs)) : Pv H (.ref a) := by
  have e : kind H (.ref a) = .tup := by
    show kindO (H a) = .tup
    rw [h]
    rfl
  unfold Pv
  rw [e]
  exact fun z => nomatch z
section
variable {P : Program} {w : World} {K : PySem.W.Frag} {mg : Str → Option Value} {base : Heap}
theorem isLetP_not {H : Hp} {v : V} (c : inst "str" (kind H v) = false) : isLet v = false := by
  rw [isStr_kind] at c
  cases v with
  | str x => exact nomatch c
  | _ => rfl
theorem ok_isletterP {f : Addr} {fd : FuncData} (F : Fun K "is_letter" "is_letter" sis_letter f fd) (T : Txt K mg base) : FnG P w K mg base CX0 1 f fd ["value"] spIsLetP := by
  refine okG F scis_letter (fun vs H Q E h => ?_) (fun cdv A outer s H vs Q E hc hr h => ?_)
  · obtain ⟨v, rfl, _⟩ := h
    rfl
  obtain ⟨v, rfl, hv, hs, q⟩ := h
  refine ⟨_, (pss_one (ps_ret (pe_and (pe_callB call_isk (by rfl) T.z_isinstance (by decide +kernel) (pa_cons (pv 0) (pa_cons (pe_bltn (v := .ty "str") (by rfl) T.z_str (by decide +kernel) rfl) pa_nil))) (pe_and (pe_cmpR op_eq (pe_callB call_len_str (by rfl) T.z_len (by decide +kernel) (pa_cons (pv 0) pa_nil)) pe_int (nomark _)) (pe_one (pe_chain op_le_str op_le_str pe_str (pv 0) pe_str)))))), ?_⟩
  refine ⟨_, rfl, v, _, rfl, .inr (.inl rfl), hv, _, rfl, ?_⟩
  refine iteB (fun c => ?_) (fun c => ?_)
  · obtain ⟨x, rfl⟩ := isStr_iff (v := v) (by rw [isStr_kind] at c; exact c)
    have hl := hs x rfl
    have z16 := sizeLine_eq
    refine ⟨_, rfl, x, rfl, by omega, rfl, _, rfl, ?_⟩
    have e1 : decide (V.int (x.length : Int) = V.int 1) = decide (x.length = 1) := decide_eq_decide.mpr ⟨fun z => by injection z with z; omega, fun z => by rw [z]; rfl⟩
    rw [e1]
    have qq : Q (.bl (decide (x.length = 1) && x.cps.toList.all low)) H := q
    refine iteB (fun c1 => ?_) (fun c1 => ?_)
    · have h1 : x.cps.toList.length = 1 := by rw [← len_list]; exact of_decide_eq_true c1
      obtain ⟨u, hu⟩ := List.length_eq_one_iff.mp h1
      have ex : x = ⟨#[u]⟩ := str_ext hu
      subst ex
      refine ⟨_, rfl, _, _, rfl, rfl, _, rfl, ?_⟩
      rw [low_fst]
      have ql : Q (.bl (low u)) H := by
        have : (decide (({ cps := #[u] } : Str).length = 1) && ({ cps := #[u] } : Str).cps.toList.all low) = low u := by
          show (true && (low u && true)) = low u
          simp
        rw [this] at qq
        exact qq
      refine iteB (fun g1 => ?_) (fun g1 => ?_)
      · refine ⟨_, _, rfl, rfl, ?_⟩
        rw [low_snd]
        have : low u = decide (u ≤ 122) := by unfold low; rw [g1, Bool.true_and]
        rw [← this]
        exact ql
      · have : low u = false := by unfold low; rw [g1, Bool.false_and]
        rw [← this]
        exact ql
    · rw [c1, Bool.false_and] at qq
      exact qq
  · have := isLetP_not c
    rw [this] at q
    exact q
abbrev sis_pattern_within : Stmt := top 25
theorem scis_pattern_within : FnScope ["value", "room", "item"] ["value", "room"] (defScope sis_pattern_within) := ⟨rfl, rfl, rfl, by decide +kernel, rfl, by decide +kernel, by decide +kernel⟩
theorem ok_within {f f1 f2 f3 f4 : Addr} {fd fd1 fd2 fd3 fd4 : FuncData} {m : Nat} {sp0 : Sp} (F : Fun K "is_pattern_within" "is_pattern_within" sis_pattern_within f fd) (T : Txt K mg base)
    (D_is_list : Df P w K mg base CX0 1 "is_list" f1 fd1 ["value"] spIsList) (D_is_letter : Df P w K mg base CX0 1 "is_letter" f2 fd2 ["value"] spIsLetP) (D_is_repetition : Df P w K mg base CX0 1 "is_repetition" f3 fd3 ["value"] spIsRep)
    (D_is_pattern_within : Df P w K mg base CX0 (1 + m) "is_pattern_within" f4 fd4 ["value", "room"] sp0) (h0 : ∀ k, m = k + 1 → sp0 = spW k) : FnG P w K mg base CX0 (1 + m + 1) f fd ["value", "room"] (spW m) := by
  refine okG F scis_pattern_within (fun vs H Q E h => ?_) (fun cdv A outer s H vs Q E hc hr h => ?_)
  · obtain ⟨b, v, l, r, N, rfl, _⟩ := h
    rfl
  obtain ⟨b, v, l, r, N, rfl, ⟨q0, vs0, rfl, hq, hts⟩, g, hd, hN, q⟩ := h
  refine ⟨_, (pss_cons (ps_if (PW.pt (pw_or (pt_not (pt_val (pe_d D_is_list hc (hr.mono (by omega)) (by rfl) (fun _ => passN) (pa_cons (pv 0) pa_nil)))) (pw_or1 (pt_cmpR op_eq (pe_callB call_len_seq (by rfl) T.z_len (by decide +kernel) (pa_cons (pv 0) pa_nil)) pe_int (nomark _)))))
  (pss_one (ps_ret pe_bl)) pss_nil)
 (pss_cons (ps_for (passes_of rfl) rfl (pi_sq (pv 0)) (pg_name (i := 2) scis_pattern_within.nd rfl (Or.inl rfl))
  (pss_one (ps_if (pt_not (pt_val (pe_d D_is_letter hc (hr.mono (by omega)) (by rfl) (fun _ => passN) (pa_cons (pv 2) pa_nil))))
  (pss_one (ps_if (PW.pt (pw_or (pt_cmpR op_eq (pv 1) pe_int (nomark _)) (pw_or (pt_not (pt_val (pe_d D_is_repetition hc (hr.mono (by omega)) (by rfl) (fun _ => passN) (pa_cons (pv 2) pa_nil)))) (pw_or1 (pt_not (pt_val (pe_d D_is_pattern_within hc (hr.mono (by omega)) (by rfl) (fun _ => passN) (pa_cons (pe_ix ix_tup (pv 2) pe_int (fun _ _ => rfl)) (pa_cons (pe_op op_sub (pv 1) pe_int) pa_nil)))))))))
  (pss_one (ps_ret pe_bl)) pss_nil)) pss_nil)))
 (pss_one (ps_ret pe_bl)))), ?_⟩
  have ln := hts.length
  have gn := g.ne
  refine ⟨_, rfl, b, q0, vs0, rfl, hq, fun H1 s1 => ⟨_, rfl, iteF ?_⟩⟩
  refine ⟨_, rfl, q0, _, rfl, so_any (s1 _ _ hq), rfl, _, rfl, ?_⟩
  refine iteB (fun c => ?_) fun _ => ?_
  · have := of_decide_eq_true c
    injection this with this
    omega
  refine ⟨_, rfl, b, q0, vs0, rfl, so_sq (s1 _ _ hq), ?_⟩
  refine for_it walk_sq (fun i σ H' => ∃ o, σ = [some (.ref q0), some (.int r), o] ∧ Same H1 H') ⟨none, rfl, Same.refl _⟩ (fun i σ H' _ ⟨_, _, s⟩ => so_sq (s _ _ (s1 _ _ hq))) ?_ ?_
  · rintro i x _ H2 _ hi ⟨o, rfl, s2⟩ ⟨rfl, hx⟩
    obtain ⟨p, hp, hpt⟩ := hts.at hx
    have s02 := s1.trans s2
    cases hpt with
    | @ch c =>
      have lc : isLet (.str ⟨#[c]⟩) = true := by
        show (decide (1 = 1) && (low c && true)) = true
        rw [g.letter hp]
        rfl
      refine ⟨_, rfl, .str ⟨#[c]⟩, rfl, (fun z => nomatch z), (fun x z => by injection z with z; rw [← z]; show 1 ≤ 1000; decide), _, rfl, ?_⟩
      rw [lc]
      exact iteF ⟨_, rfl, s2⟩
    | @rep a q1 vs1 k h1 h2 h3 =>
      obtain ⟨gk, hm⟩ := g.part hp
      have dk := deps_at hp
      have ek : (Pt.rep k).dep = deps k + 1 := rfl
      obtain ⟨m', rfl⟩ : ∃ m', m = m' + 1 := ⟨m - 1, by omega⟩
      have es := h0 m' rfl
      subst es
      have ha := s02 _ _ h1
      refine ⟨_, rfl, .ref a, rfl, kind_tup ha, (fun x z => nomatch z), _, rfl, iteT ?_⟩
      refine ⟨_, rfl, rfl, _, rfl, ?_⟩
      refine iteB (fun c => ?_) fun _ => ?_
      · have := of_decide_eq_true c
        injection this with this
        omega
      refine ⟨_, rfl, .ref a, rfl, .inr ⟨a, _, rfl, ha, _, rfl, iteF ?_⟩⟩
      refine ⟨_, rfl, a, _, _, _, rfl, rfl, SqT.of ha, atI_nat (j := 1) rfl, _, rfl, _, _, rfl, rfl, ?_⟩
      refine ⟨b, .ref q1, k, r - 1, N, rfl, ⟨q1, vs1, rfl, s02 _ _ h2, h3.same s02⟩, gk, by omega, hN, fun H4 s4 => ⟨_, rfl, iteF ⟨_, rfl, s2.trans s4⟩⟩⟩
  · rintro _ H2 ⟨o, rfl, s2⟩
    exact q _ (s1.trans s2)
theorem all_within {f f1 f2 f3 : Addr} {fd fd1 fd2 fd3 : FuncData} (F : Fun K "is_pattern_within" "is_pattern_within" sis_pattern_within f fd) (T : Txt K mg base)
    (D_is_list : Df P w K mg base CX0 1 "is_list" f1 fd1 ["value"] spIsList) (D_is_letter : Df P w K mg base CX0 1 "is_letter" f2 fd2 ["value"] spIsLetP) (D_is_repetition : Df P w K mg base CX0 1 "is_repetition" f3 fd3 ["value"] spIsRep)
    (m0 : mg "is_pattern_within" = some (.ref f)) (k0 : PySem.W.keepIn K (.ref f) = true) (b0 : Binds K fd ["value", "room"] []) : ∀ m, FnG P w K mg base CX0 (1 + m + 1) f fd ["value", "room"] (spW m)
  | 0 => ok_within (m := 0) F T D_is_list D_is_letter D_is_repetition ⟨no_fn (sp := fun _ _ _ _ => False) (fun _ _ _ _ z => z), m0, k0, b0⟩ (fun k z => absurd z (by omega))
  | m + 1 => ok_within (m := m + 1) F T D_is_list D_is_letter D_is_repetition ⟨all_within F T D_is_list D_is_letter D_is_repetition m0 k0 b0 m, m0, k0, b0⟩ (fun k z => by
    obtain rfl : m = k := by omega
    rfl)
abbrev sis_pattern : Stmt := top 24
theorem scis_pattern : FnScope ["value"] ["value"] (defScope sis_pattern) := ⟨rfl, rfl, rfl, by decide +kernel, rfl, by decide +kernel, by decide +kernel⟩
theorem ok_isp {f f1 : Addr} {fd fd1 : FuncData} (F : Fun K "is_pattern" "is_pattern" sis_pattern f fd) (T : Txt K mg base)
    (D_is_pattern_within : Df P w K mg base CX0 102 "is_pattern_within" f1 fd1 ["value", "room"] (spW 100)) : FnG P w K mg base CX0 103 f fd ["value"] spIsP := by
  refine okG F scis_pattern (fun vs H Q E h => ?_) (fun cdv A outer s H vs Q E hc hr h => ?_)
  · obtain ⟨v, l, rfl, _⟩ := h
    rfl
  obtain ⟨v, l, rfl, ⟨b, hl, g⟩, q⟩ := h
  refine ⟨_, (pss_one (ps_ret (pe_d D_is_pattern_within hc (hr.mono (by omega)) (by rfl) (fun _ => passN) (pa_cons (pv 0) (pa_cons (pe_k (by rfl) T.g_MOST_NESTED) pa_nil))))), ?_⟩
  exact ⟨_, rfl, b, v, l, 100, 5000, rfl, hl, g, by have := g.dp; omega, Nat.le_refl _, q⟩
abbrev srequire_pattern : Stmt := top 27
theorem screquire_pattern : FnScope ["value"] ["value"] (defScope srequire_pattern) := ⟨rfl, rfl, rfl, by decide +kernel, rfl, by decide +kernel, by decide +kernel⟩
theorem ok_reqp {f f1 : Addr} {fd fd1 : FuncData} (F : Fun K "require_pattern" "require_pattern" srequire_pattern f fd) (T : Txt K mg base)
    (D_is_pattern : Df P w K mg base CX0 103 "is_pattern" f1 fd1 ["value"] spIsP) : FnG P w K mg base CX0 104 f fd ["value"] spReqP := by
  refine okG F screquire_pattern (fun vs H Q E h => ?_) (fun cdv A outer s H vs Q E hc hr h => ?_)
  · obtain ⟨v, l, rfl, _⟩ := h
    rfl
  obtain ⟨v, l, rfl, hg, q⟩ := h
  refine ⟨_, (pss_one (ps_if (pt_not (pt_val (pe_d D_is_pattern hc (hr.mono (by omega)) (by rfl) (fun _ => passN) (pa_cons (pv 0) pa_nil))))
  (pss_one ps_never) pss_nil)), ?_⟩
  exact ⟨_, rfl, v, l, rfl, hg, fun H1 s1 => ⟨_, rfl, iteF (q _ s1)⟩⟩
end
end KW

namespace KW
open PySem L2 Gd Zn KM KP
abbrev sLtr : Str := "letter"
abbrev sEnd : Str := "end"
abbrev sPat : Str := "pattern"
mutual
/-- the lines of a pattern -/
def pln : Pt → List Str
  | .ch c => [jW [sLtr, ⟨#[c]⟩]]
  | .rep l => sRep :: (plns l ++ [sEnd])
def plns : List Pt → List Str
  | [] => []
  | p :: l => pln p ++ plns l
end
theorem plns_app : ∀ l m : List Pt, plns (l ++ m) = plns l ++ plns m
  | [], _ => rfl
  | p :: l, m => by
    show pln p ++ plns (l ++ m) = pln p ++ plns l ++ plns m
    rw [plns_app l m, List.append_assoc]
theorem plns_take {l : List Pt} {i : Nat} {p : Pt} (e : l[i]? = some p) : plns (l.take (i + 1)) = plns (l.take i) ++ pln p := by
  rw [take_succ e, plns_app]
  show _ ++ (pln p ++ []) = _
  rw [List.append_nil]
mutual
theorem pln_len : ∀ p : Pt, (pln p).length ≤ 2 * p.nod
  | .ch _ => by show 1 ≤ 2 * 1; omega
  | .rep l => by
    have := plns_len l
    show (sRep :: (plns l ++ [sEnd])).length ≤ 2 * (nods l + 1)
    rw [List.length_cons, List.length_append]
    show (plns l).length + 1 + 1 ≤ _
    omega
theorem plns_len : ∀ l : List Pt, (plns l).length ≤ 2 * nods l
  | [] => Nat.zero_le _
  | p :: l => by
    have := plns_len l
    have := pln_len p
    show (pln p ++ plns l).length ≤ 2 * (p.nod + nods l)
    rw [List.length_append]
    omega
end
theorem wd_ltr : Wd sLtr := wd_of (by decide +kernel)
theorem wd_rep : Wd sRep := wd_of (by decide +kernel)
theorem wd_end : Wd sEnd := wd_of (by decide +kernel)
theorem wd_pat : Wd sPat := wd_of (by decide +kernel)
theorem wd_one {c : Nat} (h : low c = true) : Wd ⟨#[c]⟩ := by
  have := wd_swd (x := ⟨#[c]⟩) (.inr ⟨c, rfl, h⟩)
  rw [show swd ⟨#[c]⟩ = ⟨#[c]⟩ from if_neg one_ne] at this
  exact this
theorem ltr_wd {c : Nat} (h : low c = true) : ∀ x ∈ [sLtr, (⟨#[c]⟩ : Str)], Wd x := fun x hx => by
  rcases List.mem_cons.mp hx with rfl | hx
  · exact wd_ltr
  · obtain rfl := List.mem_singleton.mp hx
    exact wd_one h
/-- a line: its words -/
def LineOk (z : Str) : Prop := ∃ ws, ws ≠ [] ∧ (∀ x ∈ ws, Wd x) ∧ ws.length ≤ 100 ∧ z = jW ws
theorem join_one (a : Str) : jW [a] = a := by
  show PySem.Txt.join (" " : Str) [a] = _
  rw [join_str]
  rfl
theorem line_one {x : Str} (h : Wd x) : LineOk x := ⟨[x], List.cons_ne_nil _ _, (fun y hy => by obtain rfl := List.mem_singleton.mp hy; exact h), (show 1 ≤ 100 by decide), (join_one x).symm⟩
theorem line_two {x y : Str} (h : Wd x) (g : Wd y) : LineOk (jW [x, y]) := by
  refine ⟨[x, y], List.cons_ne_nil _ _, fun z hz => ?_, (show 2 ≤ 100 by decide), rfl⟩
  rcases List.mem_cons.mp hz with rfl | hz
  · exact h
  · obtain rfl := List.mem_singleton.mp hz
    exact g
theorem LineOk.tx {z : Str} : LineOk z → Tx 4100 z
  | ⟨_, _, h, n, e⟩ => by rw [e]; exact line_len h n
theorem LineOk.no {z : Str} : LineOk z → 10 ∉ z.cps.toList
  | ⟨_, _, h, _, e⟩ => by rw [e]; exact line_no h
mutual
theorem pln_ok : ∀ {p : Pt}, p.Wf → ∀ z ∈ pln p, LineOk z
  | .ch c, h, z, hz => by
    obtain rfl := List.mem_singleton.mp hz
    exact line_two wd_ltr (wd_one h)
  | .rep l, h, z, hz => by
    rcases List.mem_cons.mp hz with rfl | hz
    · exact line_one wd_rep
    rcases List.mem_append.mp hz with hz | hz
    · exact plns_ok h.2 z hz
    · obtain rfl := List.mem_singleton.mp hz
      exact line_one wd_end
theorem plns_ok : ∀ {l : List Pt}, Wfs l → ∀ z ∈ plns l, LineOk z
  | [], _, _, hz => nomatch hz
  | p :: l, h, z, hz => by
    rcases List.mem_append.mp hz with hz | hz
    · exact pln_ok h.1 z hz
    · exact plns_ok h.2 z hz
end
mutual
theorem pln8 : ∀ (p : Pt), ∀ z ∈ pln p, z.length ≤ 8
  | .ch c, z, hz => by
    obtain rfl := List.mem_singleton.mp hz
    rw [join_two, app_len, app_len]
    have l1 : sLtr.length = 6 := by decide +kernel
    have l2 : (" " : Str).length = 1 := by decide +kernel
    have l3 : (⟨#[c]⟩ : Str).length = 1 := rfl
    omega
  | .rep l, z, hz => by
    rcases List.mem_cons.mp hz with rfl | hz
    · decide +kernel
    rcases List.mem_append.mp hz with hz | hz
    · exact plns8 l z hz
    · obtain rfl := List.mem_singleton.mp hz
      decide +kernel
theorem plns8 : ∀ (l : List Pt), ∀ z ∈ plns l, z.length ≤ 8
  | [], _, hz => nomatch hz
  | p :: l, z, hz => by
    rcases List.mem_append.mp hz with hz | hz
    · exact pln8 p z hz
    · exact plns8 l z hz
end
theorem pa_sum {l : List Pt} (h : nods l ≤ 5000) : ((sPat :: plns l).map fun x => x.length).sum + (sPat :: plns l).length * (Str.ofString "\n").length ≤ 16777216 := by
  have h1 : ∀ x ∈ ((sPat :: plns l).map fun x => x.length), x ≤ 8 := fun x hx => by
    obtain ⟨z, hz, rfl⟩ := List.mem_map.mp hx
    rcases List.mem_cons.mp hz with rfl | hz
    · decide +kernel
    · exact plns8 l z hz
  have h2 := sum_le h1
  have h3 := plns_len l
  rw [List.length_map, List.length_cons] at h2
  rw [List.length_cons, show (Str.ofString "\n").length = 1 by decide +kernel]
  omega
theorem _root_.KM.Vls.put {H H' : Hp} {D : Addr} {xs ys : List V} (v : Vls H D xs H') : Vls H D ys (upd H' D (.lst ys)) := ⟨upd_same, fun b u hb => by rw [upd_ne (ne_of_none hb v.free)]; exact v.same _ _ hb, v.free⟩
/-- the lines in a list -/
def spPln (m : Nat) : Sp := fun vs H Q _ => ∃ (b : Bool) (v : V) (l : List Pt), vs = [v] ∧ LiAt H b v l ∧ Good 5000 m l ∧ ∀ D H', Vls H D ((plns l).map V.str) H' → Q (.ref D) H'
section
variable {P : Program} {w : World} {K : PySem.W.Frag} {mg : Str → Option Value} {base : Heap}
abbrev spattern_lines : Stmt := top 45
theorem scpattern_lines : FnScope ["pattern", "lines", "item"] ["pattern"] (defScope spattern_lines) := ⟨rfl, rfl, rfl, by decide +kernel, rfl, by decide +kernel, by decide +kernel⟩
theorem ok_pln {f f1 f2 : Addr} {fd fd1 fd2 : FuncData} {m : Nat} {sp0 : Sp} (F : Fun K "pattern_lines" "pattern_lines" spattern_lines f fd) (T : Txt K mg base)
    (D_is_repetition : Df P w K mg base CX0 1 "is_repetition" f1 fd1 ["value"] spIsRep) (D_pattern_lines : Df P w K mg base CX0 (1 + m) "pattern_lines" f2 fd2 ["pattern"] sp0) (h0 : ∀ k, m = k + 1 → sp0 = spPln k) : FnG P w K mg base CX0 (1 + m + 1) f fd ["pattern"] (spPln m) := by
  refine okG F scpattern_lines (fun vs H Q E h => ?_) (fun cdv A outer s H vs Q E hc hr h => ?_)
  · obtain ⟨b, v, l, rfl, _⟩ := h
    rfl
  obtain ⟨b, v, l, rfl, ⟨q0, vs0, rfl, hq, hts⟩, g, q⟩ := h
  refine ⟨_, (pss_cons (ps_set (i := 1) scpattern_lines.nd rfl (Or.inl rfl) (pe_lst pa_nil))
 (pss_cons (ps_for (passes_of rfl) rfl (pi_sq (pv 0)) (pg_name (i := 2) scpattern_lines.nd rfl (Or.inl rfl))
  (pss_one (ps_if (pt_val (pe_d D_is_repetition hc (hr.mono (by omega)) (by rfl) (fun _ => passN) (pa_cons (pv 2) pa_nil)))
  (pss_cons (ps_expr (pe_bm PySem.F.plainAttrs_list PySem.F.slot_list_append PySem.F.type_list_append mt_append (pv 1) (pa_cons pe_str pa_nil)))
 (pss_cons (ps_expr (pe_bm PySem.F.plainAttrs_list PySem.F.slot_list_extend PySem.F.type_list_extend mt_extend (pv 1) (pa_cons (pe_d D_pattern_lines hc (hr.mono (by omega)) (by rfl) (fun _ => passN) (pa_cons (pe_ix ix_tup (pv 2) pe_int (fun _ _ => rfl)) pa_nil)) pa_nil)))
 (pss_one (ps_expr (pe_bm PySem.F.plainAttrs_list PySem.F.slot_list_append PySem.F.type_list_append mt_append (pv 1) (pa_cons pe_str pa_nil)))))) (pss_one (ps_expr (pe_bm PySem.F.plainAttrs_list PySem.F.slot_list_append PySem.F.type_list_append mt_append (pv 1) (pa_cons (pe_joined (PJ.cons pe_str (PJ.cons (pe_fmt (pv 2)) PJ.nil))) pa_nil)))))))
 (pss_one (ps_ret (pv 1))))), ?_⟩
  have ln := hts.length
  have z16 := sizeLine_eq
  have gl := g.len
  refine ⟨by show 0 ≤ sizeLine; omega, fun D hD => ?_⟩
  have sD : Same H (upd H D (.lst [])) := upd_new hD
  refine ⟨_, rfl, b, q0, vs0, rfl, so_sq (sD _ _ hq), ?_⟩
  have nl : ∀ i, (plns (l.take i)).length ≤ 10000 := fun i => by
    have h1 := plns_len (l.take i)
    have h2 : nods (l.take i) + nods (l.drop i) = nods l := by rw [← nods_app, List.take_append_drop]
    have := g.nd
    omega
  refine for_it walk_sq (fun i σ H' => ∃ o, σ = [some (.ref q0), some (.ref D), o] ∧ Vls H D ((plns (l.take i)).map V.str) H') ⟨none, rfl, Vls.nil hD⟩ (fun i σ H' _ ⟨_, _, s⟩ => so_sq (s.same _ _ hq)) ?_ ?_
  · rintro i x _ H2 _ hi ⟨o, rfl, L⟩ ⟨rfl, hx⟩
    obtain ⟨p, hp, hpt⟩ := hts.at hx
    have et := plns_take hp
    have lt : ((plns (l.take i)).map V.str).length ≤ 10000 := by rw [List.length_map]; exact nl i
    have s2 := L.same
    cases hpt with
    | @ch c =>
      have lc := g.letter hp
      refine ⟨_, rfl, .str ⟨#[c]⟩, rfl, .inl ⟨_, rfl, _, rfl, iteF ?_⟩⟩
      have e0 : ∀ z : Str, Str.empty ++ z = z := fun z => str_ext (by rw [app_list]; rfl)
      have l7 : ("letter " : Str).length = 7 := by decide +kernel
      have l1 : (⟨#[c]⟩ : Str).length = 1 := rfl
      have em : Str.empty ++ Str.ofString "letter " ++ ⟨#[c]⟩ = jW [sLtr, ⟨#[c]⟩] := by
        rw [e0, join_two]
        rfl
      refine ⟨_, rfl, .inl ⟨rfl, _, SqL.of L.at_⟩, _, rfl, ?_, _, rfl, .inl ⟨_, rfl, by omega, _, rfl, ?_, ?_⟩⟩
      · rw [e0]; omega
      · rw [e0, app_len]; omega
      · show tJs [] (Str.empty ++ Str.ofString "letter " ++ ⟨#[c]⟩) _ _ _
        rw [em]
        refine ⟨D, _, _, rfl, rfl, L.at_, by omega, some (.str ⟨#[c]⟩), rfl, ?_⟩
        rw [et, List.map_append]
        exact L.put
    | @rep a q1 vs1 k h1 h2 h3 =>
      obtain ⟨gk, hm⟩ := g.part hp
      obtain ⟨m', rfl⟩ : ∃ m', m = m' + 1 := ⟨m - 1, by omega⟩
      have es := h0 m' rfl
      subst es
      have ha := s2 _ _ h1
      refine ⟨_, rfl, .ref a, rfl, .inr ⟨a, _, rfl, ha, _, rfl, iteT ?_⟩⟩
      refine ⟨_, rfl, .inl ⟨rfl, _, SqL.of L.at_⟩, D, _, _, rfl, rfl, L.at_, by omega, ?_⟩
      have L2 := L.put (ys := (plns (l.take i)).map V.str ++ [V.str sRep])
      refine ⟨_, rfl, .inl ⟨rfl, _, SqL.of L2.at_⟩, _, rfl, a, _, _, _, rfl, rfl, SqT.of (L2.same _ _ h1), atI_nat (j := 1) rfl, b, .ref q1, k, rfl, ⟨q1, vs1, rfl, L2.same _ _ h2, h3.same L2.same⟩, gk, fun D4 H4 L4 => ?_⟩
      have L5 := L2.ext L4.same
      have nk := plns_len k
      have := gk.nd
      refine ⟨D, D4, _, _, rfl, rfl, L5.at_, L4.at_, ?_, ?_⟩
      · rw [List.length_append, List.length_map (as := plns k)]
        show _ + 1 + _ ≤ _
        omega
      have L6 := L5.put (ys := (plns (l.take i)).map V.str ++ [V.str sRep] ++ (plns k).map V.str)
      refine ⟨_, rfl, .inl ⟨rfl, _, SqL.of L6.at_⟩, D, _, _, rfl, rfl, L6.at_, ?_, some (.ref a), rfl, ?_⟩
      · rw [List.length_append, List.length_append, List.length_map (as := plns k)]
        show _ + 1 + _ < _
        omega
      rw [et, List.map_append]
      have e : (pln (.rep k)).map V.str = [V.str sRep] ++ ((plns k).map V.str ++ [V.str sEnd]) := by
        show V.str sRep :: ((plns k ++ [sEnd]).map V.str) = _
        rw [List.map_append]
        rfl
      rw [e, ← List.append_assoc, ← List.append_assoc]
      exact L6.put
  · rintro _ H2 ⟨o, rfl, L⟩
    rw [ln, List.take_length] at L
    exact ⟨_, rfl, q _ _ L⟩
theorem all_pln {f f1 : Addr} {fd fd1 : FuncData} (F : Fun K "pattern_lines" "pattern_lines" spattern_lines f fd) (T : Txt K mg base) (D_is_repetition : Df P w K mg base CX0 1 "is_repetition" f1 fd1 ["value"] spIsRep)
    (m0 : mg "pattern_lines" = some (.ref f)) (k0 : PySem.W.keepIn K (.ref f) = true) (b0 : Binds K fd ["pattern"] []) : ∀ m, FnG P w K mg base CX0 (1 + m + 1) f fd ["pattern"] (spPln m)
  | 0 => ok_pln (m := 0) F T D_is_repetition ⟨no_fn (sp := fun _ _ _ _ => False) (fun _ _ _ _ z => z), m0, k0, b0⟩ (fun k z => absurd z (by omega))
  | m + 1 => ok_pln (m := m + 1) F T D_is_repetition ⟨all_pln F T D_is_repetition m0 k0 b0 m, m0, k0, b0⟩ (fun k z => by
    obtain rfl : m = k := by omega
    rfl)
/-- the text of a pattern -/
def paText (l : List Pt) : Str := jL (sPat :: plns l)
def spWrP : Sp := fun vs H Q _ => ∃ v l, vs = [v] ∧ GoodAt H v l ∧ ∀ H', Same H H' → Q (.str (paText l)) H'
abbrev swrite_pattern : Stmt := top 44
theorem scwrite_pattern : FnScope ["pattern"] ["pattern"] (defScope swrite_pattern) := ⟨rfl, rfl, rfl, by decide +kernel, rfl, by decide +kernel, by decide +kernel⟩
theorem ok_wrp {f f1 f2 : Addr} {fd fd1 fd2 : FuncData} (F : Fun K "write_pattern" "write_pattern" swrite_pattern f fd) (T : Txt K mg base)
    (D_require_pattern : Df P w K mg base CX0 104 "require_pattern" f1 fd1 ["value"] spReqP) (D_pattern_lines : Df P w K mg base CX0 102 "pattern_lines" f2 fd2 ["pattern"] (spPln 100)) : FnG P w K mg base CX0 105 f fd ["pattern"] spWrP := by
  refine okG F scwrite_pattern (fun vs H Q E h => ?_) (fun cdv A outer s H vs Q E hc hr h => ?_)
  · obtain ⟨v, l, rfl, _⟩ := h
    rfl
  obtain ⟨v, l, rfl, ⟨b, hl, g⟩, q⟩ := h
  refine ⟨_, (pss_cons (ps_expr (pe_d D_require_pattern hc (hr.mono (by omega)) (by rfl) (fun _ => passN) (pa_cons (pv 0) pa_nil)))
 (pss_one (ps_ret (pe_join pe_str (pe_op op_cat (pe_lst (pa_cons pe_str pa_nil)) (pe_d D_pattern_lines hc (hr.mono (by omega)) (by rfl) (fun _ => passN) (pa_cons (pv 0) pa_nil))))))), ?_⟩
  refine ⟨_, rfl, v, l, rfl, ⟨b, hl, g⟩, fun H1 s1 => ⟨⟨_, rfl⟩, by show 1 ≤ sizeLine; decide, fun p1 h1 => ?_⟩⟩
  have s2 := s1.trans (upd_new h1 (o := .lst [.str sPat]))
  refine ⟨_, rfl, b, v, l, rfl, hl.same s2, g, fun D H2 L => ?_⟩
  have nk := plns_len l
  have gn := g.nd
  have z16 := sizeLine_eq
  refine ⟨p1, D, _, _, rfl, rfl, L.same _ _ upd_same, L.at_, ?_, fun p2 h2 => ⟨_, p2, sPat :: plns l, rfl, rfl, .inl (SqL.of upd_same), ?_, q _ (s2.trans (L.same.trans (upd_new h2)))⟩⟩
  · rw [List.length_map]
    show 1 + _ ≤ _
    omega
  · exact pa_sum gn
end
end KW

namespace KW
open PySem L2 Gd Zn KM KP
theorem atI_last {α : Type} {l : List α} {x : α} : atI (l ++ [x]) (-1) = some x := by
  unfold atI
  have e : ixN (l ++ [x]).length (-1) = some l.length := by
    rw [List.length_append]
    show ixN (l.length + 1) (-1) = some l.length
    unfold ixN
    simp
    constructor <;> omega
  rw [e]
  show (l ++ [x])[l.length]? = some x
  simp
theorem last_get {α : Type} {l : List α} {x : α} : (l ++ [x])[(l ++ [x]).length - 1]? = some x := by simp
theorem none_upd {H : Hp} {p q : Addr} {o : HO} (h : upd H p o q = none) : H q = none := by
  by_cases e : q = p
  · subst e
    rw [upd_same] at h
    exact nomatch h
  · rwa [upd_ne e] at h
theorem one_eq {K : PySem.W.Frag} {H : Hp} {a b : Addr} {x y : Str} {r : Bool} (h1 : H a = some (.lst [.str x])) (h2 : H b = some (.lst [.str y])) (sx : SeqAt.shaped (.list [.str x]) = true) (sy : SeqAt.shaped (.list [.str y]) = true)
    (e : (PyData.list [.str x]).eqv (.list [.str y]) = r) {Q : VK} (q : Q (.bl r) H) : rEqD K (.ref a) (.ref b) H Q :=
  ⟨.list [.str x], .list [.str y], .lst (SqL.of h1) (.cons (.str _) .nil), .lst (SqL.of h2) (.cons (.str _) .nil), sx, sy, by rw [e]; exact q⟩
/-- one line read: a letter, a repetition begun, a repetition closed -/
def spItem : Sp := fun vs H Q _ => ∃ (G W a : Addr) (gs : List Addr) (xs : List V), vs = [.ref G, .ref W] ∧ H G = some (.lst (gs.map V.ref ++ [V.ref a])) ∧ H a = some (.lst xs) ∧ xs.length ≤ 100000 ∧ gs.length ≤ 100 ∧
  ((∃ c, H W = some (.lst [.str sLtr, .str ⟨#[c]⟩]) ∧ low c = true ∧ ∀ H', Same H H' → Q (.bl true) (upd H' a (.lst (xs ++ [.str ⟨#[c]⟩])))) ∨
   (H W = some (.lst [.str sRep]) ∧ gs.length ≤ 99 ∧ ∀ H' p, Same H H' → H' p = none → Q (.bl true) (upd (upd H' p (.lst [])) G (.lst (gs.map V.ref ++ [V.ref a] ++ [V.ref p])))) ∨
   (H W = some (.lst [.str sEnd]) ∧ 1 ≤ xs.length ∧ ∃ gs0 b ys, gs = gs0 ++ [b] ∧ b ≠ G ∧ H b = some (.lst ys) ∧ ys.length ≤ 100000 ∧
      ∀ H' t, Same H H' → H' t = none → Q (.bl true) (upd (upd (upd H' G (.lst (gs.map V.ref))) t (.tup [.str sRep, .ref a])) b (.lst (ys ++ [V.ref t])))))
section
variable {P : Program} {w : World} {K : PySem.W.Frag} {mg : Str → Option Value} {base : Heap}
abbrev sread_item : Stmt := top 47
theorem scread_item : FnScope ["groups", "words", "inner"] ["groups", "words"] (defScope sread_item) := ⟨rfl, rfl, rfl, by decide +kernel, rfl, by decide +kernel, by decide +kernel⟩
theorem ok_item {f f1 : Addr} {fd fd1 : FuncData} (F : Fun K "read_item" "read_item" sread_item f fd) (T : Txt K mg base)
    (D_is_letter : Df P w K mg base CX0 1 "is_letter" f1 fd1 ["value"] spIsLetP) : FnG P w K mg base CX0 2 f fd ["groups", "words"] spItem := by
  refine okG F scread_item (fun vs H Q E h => ?_) (fun cdv A outer s H vs Q E hc hr h => ?_)
  · obtain ⟨G, W, a, gs, xs, rfl, _⟩ := h
    rfl
  obtain ⟨G, W, a, gs, xs, rfl, hG, ha, hx, hg, h⟩ := h
  refine ⟨_, (pss_cons (ps_if (PW.pt (pw_and (pt_cmpR op_eq (pe_callB call_len_seq (by rfl) T.z_len (by decide +kernel) (pa_cons (pv 1) pa_nil)) pe_int (nomark _)) (pw_and (pt_cmpR op_eq (pe_ix ix_list (pv 1) pe_int (fun _ _ => rfl)) pe_str (nomark _)) (pw_and1 (pt_val (pe_d D_is_letter hc (hr.mono (by omega)) (by rfl) (fun _ => passN) (pa_cons (pe_ix ix_list (pv 1) pe_int (fun _ _ => rfl)) pa_nil)))))))
  (pss_cons (ps_expr (pe_bm PySem.F.plainAttrs_list PySem.F.slot_list_append PySem.F.type_list_append mt_append (pe_ix ix_list (pv 0) (pe_un un_neg pe_int) (fun _ _ => rfl)) (pa_cons (pe_ix ix_list (pv 1) pe_int (fun _ _ => rfl)) pa_nil)))
 (pss_one (ps_ret pe_bl))) pss_nil)
 (pss_cons (ps_if (PW.pt (pw_and (pt_cmpR (op_eqD hr.units) (pv 1) (pe_lst (pa_cons pe_str pa_nil)) (nomark _)) (pw_and1 (pt_cmpR op_le (pe_callB call_len_seq (by rfl) T.z_len (by decide +kernel) (pa_cons (pv 0) pa_nil)) (pe_k (by rfl) T.g_MOST_NESTED) (nomark _)))))
  (pss_cons (ps_expr (pe_bm PySem.F.plainAttrs_list PySem.F.slot_list_append PySem.F.type_list_append mt_append (pv 0) (pa_cons (pe_lst pa_nil) pa_nil)))
 (pss_one (ps_ret pe_bl))) pss_nil)
 (pss_cons (ps_if (PW.pt (pw_and (pt_cmpR (op_eqD hr.units) (pv 1) (pe_lst (pa_cons pe_str pa_nil)) (nomark _)) (pw_and (pt_cmpR op_gt (pe_callB call_len_seq (by rfl) T.z_len (by decide +kernel) (pa_cons (pv 0) pa_nil)) pe_int (nomark _)) (pw_and1 (pt_cmpR op_gt (pe_callB call_len_seq (by rfl) T.z_len (by decide +kernel) (pa_cons (pe_ix ix_list (pv 0) (pe_un un_neg pe_int) (fun _ _ => rfl)) pa_nil)) pe_int (nomark _))))))
  (pss_cons (ps_set (i := 2) scread_item.nd rfl (Or.inl rfl) (pe_bm0 PySem.F.plainAttrs_list PySem.F.slot_list_pop PySem.F.type_list_pop mt_pop (pv 0)))
 (pss_cons (ps_expr (pe_bm PySem.F.plainAttrs_list PySem.F.slot_list_append PySem.F.type_list_append mt_append (pe_ix ix_list (pv 0) (pe_un un_neg pe_int) (fun _ _ => rfl)) (pa_cons (pe_tup (pa_cons (pe_k (by rfl) T.g_REPEAT) (pa_cons (pv 2) pa_nil))) pa_nil)))
 (pss_one (ps_ret pe_bl)))) pss_nil)
 (pss_one (ps_ret pe_bl))))), ?_⟩
  have z16 := sizeLine_eq
  rcases h with ⟨c, hW, lc, q⟩ | ⟨hW, hn, q⟩ | ⟨hW, hn, gs0, b, ys, rfl, hbG, hb, hy, q⟩
  · refine ⟨_, rfl, W, _, rfl, .inl (SqL.of hW), rfl, _, rfl, iteT ?_⟩
    refine ⟨_, rfl, W, _, _, _, rfl, rfl, SqL.of hW, atI_nat (j := 0) rfl, rfl, _, rfl, iteT ?_⟩
    refine ⟨_, rfl, W, _, _, _, rfl, rfl, SqL.of hW, atI_nat (j := 1) rfl, .str ⟨#[c]⟩, rfl, (fun z => nomatch z), (fun x z => by injection z with z; rw [← z]; show 1 ≤ 1000; decide), _, rfl, ?_⟩
    have ll : isLet (.str ⟨#[c]⟩) = true := by
      show (decide (1 = 1) && (low c && true)) = true
      rw [lc]
      rfl
    rw [ll]
    refine iteT ⟨_, rfl, 1, rfl, G, _, _, _, rfl, rfl, SqL.of hG, atI_last, .inl ⟨rfl, _, SqL.of ha⟩, ?_⟩
    refine ⟨_, rfl, W, _, _, _, rfl, rfl, SqL.of hW, atI_nat (j := 1) rfl, a, _, _, rfl, rfl, ha, by omega, ?_⟩
    exact q H (Same.refl H)
  · refine ⟨_, rfl, W, _, rfl, .inl (SqL.of hW), rfl, _, rfl, iteF ?_⟩
    refine ⟨_, rfl, by show 1 ≤ sizeLine; decide, fun p1 h1 => one_eq (upd_new h1 _ _ hW) upd_same (by decide +kernel) (by decide +kernel) (r := true) (by decide +kernel) ⟨_, rfl, iteT ?_⟩⟩
    have s1 : Same H (upd H p1 (.lst [.str sRep])) := upd_new h1
    refine ⟨_, rfl, G, _, rfl, .inl (SqL.of (s1 _ _ hG)), _, _, rfl, rfl, _, rfl, ?_⟩
    rw [decide_eq_true (show ((gs.map V.ref ++ [V.ref a]).length : Int) ≤ 100 by rw [List.length_append, List.length_map]; show ((gs.length + 1 : Nat) : Int) ≤ 100; omega)]
    refine iteT ⟨_, rfl, .inl ⟨rfl, _, SqL.of (s1 _ _ hG)⟩, by show 0 ≤ sizeLine; omega, fun p hp => ⟨G, _, _, rfl, rfl, upd_new hp _ _ (s1 _ _ hG), ?_, ?_⟩⟩
    · rw [List.length_append, List.length_map]
      show gs.length + 1 < sizeLine
      omega
    · exact q _ p s1 hp
  · refine ⟨_, rfl, W, _, rfl, .inl (SqL.of hW), rfl, _, rfl, iteF ?_⟩
    refine ⟨_, rfl, by show 1 ≤ sizeLine; decide, fun p1 h1 => one_eq (upd_new h1 _ _ hW) upd_same (by decide +kernel) (by decide +kernel) (r := false) (by decide +kernel) ⟨_, rfl, iteF ?_⟩⟩
    have s1 : Same H (upd H p1 (.lst [.str sRep])) := upd_new h1
    refine ⟨_, rfl, by show 1 ≤ sizeLine; decide, fun p2 h2 => one_eq (upd_new h2 _ _ (s1 _ _ hW)) upd_same (by decide +kernel) (by decide +kernel) (r := true) (by decide +kernel) ⟨_, rfl, iteT ?_⟩⟩
    have s2 : Same H _ := s1.trans (upd_new h2 (o := .lst [.str sEnd]))
    obtain ⟨H2, eH⟩ : ∃ H2, upd (upd H p1 (.lst [.str sRep])) p2 (.lst [.str sEnd]) = H2 := ⟨_, rfl⟩
    rw [eH] at s2
    show tAnd _ _ _ (upd (upd H p1 (.lst [.str sRep])) p2 (.lst [.str sEnd])) _
    rw [eH]
    rw [List.map_append] at hG q
    have hG2 := s2 _ _ hG
    refine ⟨_, rfl, G, _, rfl, .inl (SqL.of hG2), _, _, rfl, rfl, _, rfl, ?_⟩
    rw [decide_eq_true (show (1 : Int) < ((gs0.map V.ref ++ [b].map V.ref ++ [V.ref a]).length : Nat) by rw [List.length_append, List.length_append]; show (1 : Int) < ((_ + 1 + 1 : Nat) : Int); omega)]
    refine iteT ⟨_, rfl, 1, rfl, G, _, _, _, rfl, rfl, SqL.of hG2, atI_last, a, _, rfl, .inl (SqL.of (s2 _ _ ha)), _, _, rfl, rfl, _, rfl, ?_⟩
    rw [decide_eq_true (show (0 : Int) < (xs.length : Nat) by omega)]
    refine iteT ⟨_, rfl, .inl ⟨rfl, _, SqL.of hG2⟩, G, _, _, rfl, rfl, hG2, last_get, ?_⟩
    rw [List.dropLast_concat]
    have hb1 : upd H2 G (.lst (gs0.map V.ref ++ [b].map V.ref)) b = some (.lst ys) := by rw [upd_ne hbG]; exact s2 _ _ hb
    refine ⟨_, rfl, 1, rfl, G, _, _, _, rfl, rfl, SqL.of upd_same, atI_last, .inl ⟨rfl, _, SqL.of hb1⟩, _, rfl, by show 2 ≤ sizeLine; omega, fun t ht => ⟨b, _, _, rfl, rfl, upd_new ht _ _ hb1, by omega, ?_⟩⟩
    exact q H2 t s2 (none_upd ht)
end
end KW

/-! how the lines of a pattern are read: the open groups, what is left of each, what stands in the heap -/
namespace KW
open PySem L2 Gd Zn KM KP
/-- the lines that are left: of the open group, then of the groups around it -/
def left : List Pt → List (List Pt × List Pt) → List Str
  | r, [] => plns r
  | r, (_, r') :: o => plns r ++ sEnd :: left r' o
/-- the whole pattern -/
def whole : List Pt → List (List Pt × List Pt) → List Pt
  | l, [] => l
  | l, (g, r) :: o => whole (g ++ .rep l :: r) o
theorem whole_deps : ∀ (o : List (List Pt × List Pt)) (l : List Pt), o.length + deps l ≤ deps (whole l o)
  | [], l => by show 0 + deps l ≤ deps l; omega
  | (g, r) :: o, l => by
    have h := whole_deps o (g ++ .rep l :: r)
    have h2 := deps_at (l := g ++ .rep l :: r) (i := g.length) (p := .rep l) (by rw [List.getElem?_append_right (Nat.le_refl _), Nat.sub_self]; rfl)
    have e : (Pt.rep l).dep = deps l + 1 := rfl
    show o.length + 1 + deps l ≤ deps (whole (g ++ .rep l :: r) o)
    omega
theorem whole_wf : ∀ (o : List (List Pt × List Pt)) (l : List Pt), Wfs (whole l o) → Wfs l ∧ (o ≠ [] → 1 ≤ l.length)
  | [], l, h => ⟨h, fun z => absurd rfl z⟩
  | (g, r) :: o, l, h => by
    have h1 := (whole_wf o (g ++ .rep l :: r) h).1
    have h2 : (Pt.rep l).Wf := wfs_at h1 (i := g.length) (by rw [List.getElem?_append_right (Nat.le_refl _), Nat.sub_self]; rfl)
    exact ⟨h2.2, fun _ => h2.1⟩
theorem whole_nods : ∀ (o : List (List Pt × List Pt)) (l : List Pt), nods l ≤ nods (whole l o)
  | [], l => Nat.le_refl _
  | (g, r) :: o, l => by
    have h := whole_nods o (g ++ .rep l :: r)
    have h2 := nods_at (l := g ++ .rep l :: r) (i := g.length) (p := .rep l) (by rw [List.getElem?_append_right (Nat.le_refl _), Nat.sub_self]; rfl)
    have e : (Pt.rep l).nod = nods l + 1 := rfl
    show nods l ≤ nods (whole (g ++ .rep l :: r) o)
    omega
/-- a group in the heap: its items, the lists of its own repetitions, each once -/
inductive Grp (U : Hp) : List V → List Pt → List Addr → Prop
  | nil : Grp U [] [] []
  | ch {vs : List V} {l : List Pt} {qs : List Addr} {c : Nat} : Grp U vs l qs → Grp U (vs ++ [.str ⟨#[c]⟩]) (l ++ [.ch c]) qs
  | rep {vs ws : List V} {l k : List Pt} {qs : List Addr} {t q : Addr} : Grp U vs l qs → U t = some (.tup [.str sRep, .ref q]) → U q = some (.lst ws) → PtsAt U true ws k → q ∉ qs → Grp U (vs ++ [.ref t]) (l ++ [.rep k]) (qs ++ [q])
theorem Grp.same {U U' : Hp} {vs : List V} {l : List Pt} {qs : List Addr} (s : Same U U') (g : Grp U vs l qs) : Grp U' vs l qs := by
  induction g with
  | nil => exact .nil
  | ch _ ih => exact .ch ih
  | rep _ h1 h2 h3 h4 ih => exact .rep ih (s _ _ h1) (s _ _ h2) (h3.same s) h4
theorem Grp.pts {U : Hp} {vs : List V} {l : List Pt} {qs : List Addr} (g : Grp U vs l qs) : PtsAt U true vs l := by
  induction g with
  | nil => exact .nil
  | ch _ ih => exact ih.snoc .ch
  | rep _ h1 h2 h3 h4 ih => exact ih.snoc (.rep h1 h2 h3)
theorem Grp.len {U : Hp} {vs : List V} {l : List Pt} {qs : List Addr} (g : Grp U vs l qs) : vs.length = l.length := g.pts.length
/-- an open group: where, its items, its pattern so far, what is left of it, its own lists -/
structure Gp where
  a : Addr
  vs : List V
  g : List Pt
  r : List Pt
  qs : List Addr
structure Ent (H0 : Hp) (G : Addr) (U H : Hp) (e : Gp) : Prop where
  at_ : H e.a = some (.lst e.vs)
  free : U e.a = none
  ne : e.a ≠ G
  grp : Grp U e.vs e.g e.qs
  own : ∀ q ∈ e.qs, U q ≠ none ∧ H0 q = none
theorem grows {U U' : Hp} (s : Same U U') {q : Addr} (h : U q ≠ none) : U' q ≠ none := fun z => by
  cases e : U q with
  | none => exact h e
  | some o =>
    rw [s _ _ e] at z
    exact nomatch z
theorem none_of {H H' : Hp} {a : Addr} (s : Same H H') (h : H' a = none) : H a = none := by
  cases e : H a with
  | none => rfl
  | some o =>
    rw [s _ _ e] at h
    exact nomatch h
theorem Ent.up {H0 U U' H H' : Hp} {G : Addr} {e : Gp} (n : Ent H0 G U H e) (s : Same U U') (f : U' e.a = none) (h : H' e.a = H e.a) : Ent H0 G U' H' e :=
  ⟨by rw [h]; exact n.at_, f, n.ne, n.grp.same s, fun q hq => ⟨grows s (n.own q hq).1, (n.own q hq).2⟩⟩
/-- the groups: the innermost, then those around it -/
structure Gps (H0 : Hp) (G : Addr) (U H : Hp) (c : Gp) (os : List Gp) : Prop where
  base : Same H0 U
  sub : Same U H
  gat : H G = some (.lst ((os.map (·.a)).reverse.map V.ref ++ [V.ref c.a]))
  gfree : U G = none
  cur : Ent H0 G U H c
  out : ∀ e ∈ os, Ent H0 G U H e
  nd : ((c :: os).map (·.a)).Nodup
abbrev prs (os : List Gp) : List (List Pt × List Pt) := os.map fun e => (e.g, e.r)
section
variable {H0 U H H' : Hp} {G : Addr} {c : Gp} {os : List Gp}
theorem Gps.keep (n : Gps H0 G U H c os) (s : Same H H') : Gps H0 G U H' c os := by
  have at_ : ∀ {e : Gp}, Ent H0 G U H e → H' e.a = H e.a := fun {e} x => by rw [x.at_]; exact s _ _ x.at_
  exact ⟨n.base, n.sub.trans s, s _ _ n.gat, n.gfree, n.cur.up (Same.refl _) n.cur.free (at_ n.cur), fun e he => (n.out e he).up (Same.refl _) (n.out e he).free (at_ (n.out e he)), n.nd⟩
theorem Gps.far (n : Gps H0 G U H c os) {e : Gp} (he : e ∈ os) : e.a ≠ c.a := fun z => by
  have := n.nd
  rw [List.map_cons, List.nodup_cons] at this
  exact this.1 (z ▸ List.mem_map.mpr ⟨e, he, rfl⟩)
/-- a letter read -/
theorem Gps.letter {k : Nat} (n : Gps H0 G U H c os) : Gps H0 G U (upd H c.a (.lst (c.vs ++ [.str ⟨#[k]⟩]))) ⟨c.a, c.vs ++ [.str ⟨#[k]⟩], c.g ++ [.ch k], c.r, c.qs⟩ os := by
  refine ⟨n.base, fun b o hb => ?_, ?_, n.gfree, ⟨upd_same, n.cur.free, n.cur.ne, n.cur.grp.ch, n.cur.own⟩, fun e he => (n.out e he).up (Same.refl _) (n.out e he).free (upd_ne (n.far he)), n.nd⟩
  · rw [upd_ne (fun z => by rw [z, n.cur.free] at hb; exact nomatch hb)]
    exact n.sub _ _ hb
  · rw [upd_ne (Ne.symm n.cur.ne)]
    exact n.gat
/-- a repetition begun -/
theorem Gps.open {p : Addr} (n : Gps H0 G U H c os) (hp : H p = none) {k r : List Pt} : Gps H0 G U (upd (upd H p (.lst [])) G (.lst ((os.map (·.a)).reverse.map V.ref ++ [V.ref c.a] ++ [V.ref p]))) ⟨p, [], [], k, []⟩ (⟨c.a, c.vs, c.g, r, c.qs⟩ :: os) := by
  have pg : p ≠ G := fun z => by rw [z, n.gat] at hp; exact nomatch hp
  have up : U p = none := none_of n.sub hp
  have oth : ∀ {b : Addr} {o : HO} {u v : HO}, H b = some o → b ≠ G → upd (upd H p u) G v b = H b := fun {b o u v} hb g => by rw [upd_ne g, upd_ne (ne_of_none hb hp)]
  refine ⟨n.base, fun b o hb => ?_, ?_, n.gfree, ⟨by rw [upd_ne pg]; exact upd_same, up, pg, .nil, fun q hq => nomatch hq⟩, fun e he => ?_, ?_⟩
  · have hb2 := n.sub _ _ hb
    rw [oth hb2 (fun z => by rw [z, n.gfree] at hb; exact nomatch hb)]
    exact hb2
  · rw [upd_same, List.map_cons, List.reverse_cons, List.map_append]
    rfl
  · rcases List.mem_cons.mp he with rfl | he
    · exact ⟨by rw [oth n.cur.at_ n.cur.ne]; exact n.cur.at_, n.cur.free, n.cur.ne, n.cur.grp, n.cur.own⟩
    · have x := n.out e he
      exact x.up (Same.refl _) x.free (oth x.at_ x.ne)
  · rw [List.map_cons, List.nodup_cons]
    refine ⟨fun z => ?_, n.nd⟩
    obtain ⟨e, he, ee⟩ := List.mem_map.mp z
    rcases List.mem_cons.mp he with rfl | he
    · have ee : c.a = p := ee
      have := n.cur.at_
      rw [ee, hp] at this
      exact nomatch this
    · have := (n.out e he).at_
      rw [ee, hp] at this
      exact nomatch this
/-- a repetition closed -/
theorem Gps.close {e : Gp} {t : Addr} (n : Gps H0 G U H c (e :: os)) (ht : H t = none) :
    Gps H0 G (upd (upd U c.a (.lst c.vs)) t (.tup [.str sRep, .ref c.a])) (upd (upd (upd H G (.lst (((e :: os).map (·.a)).reverse.map V.ref))) t (.tup [.str sRep, .ref c.a])) e.a (.lst (e.vs ++ [V.ref t])))
      ⟨e.a, e.vs ++ [V.ref t], e.g ++ [.rep c.g], e.r, e.qs ++ [c.a]⟩ os := by
  have he := n.out e List.mem_cons_self
  have eL := n.far (e := e) List.mem_cons_self
  have some_ne : ∀ {b : Addr} {o : HO}, H b = some o → b ≠ t := fun hb => ne_of_none hb ht
  have ec := some_ne n.cur.at_
  have ee := some_ne he.at_
  have eg := some_ne n.gat
  have ut : U t = none := none_of n.sub ht
  have s1 : Same U (upd U c.a (.lst c.vs)) := upd_new n.cur.free
  have s2 : Same U (upd (upd U c.a (.lst c.vs)) t (.tup [.str sRep, .ref c.a])) := s1.trans (upd_new (by rw [upd_ne (Ne.symm ec)]; exact ut))
  have oth : ∀ {b : Addr} {u v w : HO}, b ≠ e.a → b ≠ t → b ≠ G → upd (upd (upd H G u) t v) e.a w b = H b := fun h1 h2 h3 => by rw [upd_ne h1, upd_ne h2, upd_ne h3]
  have fre : ∀ {b : Addr}, b ≠ t → b ≠ c.a → U b = none → upd (upd U c.a (.lst c.vs)) t (.tup [.str sRep, .ref c.a]) b = none := fun h1 h2 h => by rw [upd_ne h1, upd_ne h2]; exact h
  have nd2 := n.nd
  rw [List.map_cons, List.nodup_cons] at nd2
  have nd3 := nd2.2
  rw [List.map_cons, List.nodup_cons] at nd3
  have oe : ∀ {x : Gp}, x ∈ os → x.a ≠ e.a := fun {x} hx z => nd3.1 (z ▸ List.mem_map.mpr ⟨x, hx, rfl⟩)
  refine ⟨n.base.trans s2, fun b o hb => ?_, ?_, fre eg (Ne.symm n.cur.ne) n.gfree, ⟨upd_same, fre ee eL he.free, he.ne, ?_, fun q hq => ?_⟩, fun x hx => ?_, nd2.2⟩
  · by_cases bt : b = t
    · subst bt
      rw [upd_same] at hb
      rw [upd_ne (Ne.symm ee), upd_same]
      exact hb
    rw [upd_ne bt] at hb
    by_cases bc : b = c.a
    · subst bc
      rw [upd_same] at hb
      rw [oth (Ne.symm eL) bt n.cur.ne, n.cur.at_]
      exact hb
    rw [upd_ne bc] at hb
    rw [oth (fun z => by rw [z, he.free] at hb; exact nomatch hb) bt (fun z => by rw [z, n.gfree] at hb; exact nomatch hb)]
    exact n.sub _ _ hb
  · rw [upd_ne (Ne.symm he.ne), upd_ne eg, upd_same, List.map_cons, List.reverse_cons, List.map_append]
    rfl
  · refine .rep (he.grp.same s2) upd_same (by rw [upd_ne ec]; exact upd_same) (n.cur.grp.pts.same s2) fun z => ?_
    exact (he.own _ z).1 n.cur.free
  · rcases List.mem_append.mp hq with hq | hq
    · exact ⟨grows s2 (he.own q hq).1, (he.own q hq).2⟩
    · obtain rfl := List.mem_singleton.mp hq
      exact ⟨(fun z => by rw [upd_ne ec, upd_same] at z; exact nomatch z), none_of n.base n.cur.free⟩
  · have y := n.out x (List.mem_cons_of_mem _ hx)
    exact y.up s2 (fre (some_ne y.at_) (n.far (List.mem_cons_of_mem _ hx)) y.free) (oth (oe hx) (some_ne y.at_) y.ne)
end
end KW

namespace KW
open PySem L2 Gd Zn KM KP
theorem left_ch {k : Nat} {r : List Pt} : ∀ o : List (List Pt × List Pt), left (.ch k :: r) o = jW [sLtr, ⟨#[k]⟩] :: left r o
  | [] => rfl
  | (_, _) :: _ => rfl
theorem left_rep {k r g : List Pt} : ∀ o : List (List Pt × List Pt), left (.rep k :: r) o = sRep :: left k ((g, r) :: o)
  | [] => by
    show (sRep :: (plns k ++ [sEnd])) ++ plns r = sRep :: (plns k ++ sEnd :: plns r)
    rw [List.cons_append, List.append_assoc]
    rfl
  | (g', r') :: o => by
    show (sRep :: (plns k ++ [sEnd]) ++ plns r) ++ sEnd :: left r' o = sRep :: (plns k ++ sEnd :: (plns r ++ sEnd :: left r' o))
    simp
theorem left_nil : ∀ {r : List Pt} {o : List (List Pt × List Pt)}, left r o = [] → r = [] ∧ o = []
  | [], [], _ => ⟨rfl, rfl⟩
  | .ch k :: r, o, h => by rw [left_ch] at h; exact nomatch h
  | .rep k :: r, o, h => by rw [left_rep (g := [])] at h; exact nomatch h
  | [], (g, r) :: o, h => nomatch (show sEnd :: left r o = [] from h)
theorem whole_step {g r : List Pt} {p : Pt} : g ++ [p] ++ r = g ++ p :: r := by simp
theorem pa_len {l : List Pt} (h : nods l ≤ 5000) : (paText l).length ≤ 16000000 := by
  have h1 : ∀ x ∈ ((sPat :: plns l).map fun x => x.length), x ≤ 8 := fun x hx => by
    obtain ⟨z, hz, rfl⟩ := List.mem_map.mp hx
    rcases List.mem_cons.mp hz with rfl | hz
    · decide +kernel
    · exact plns8 l z hz
  have h2 := sum_le h1
  have h3 := plns_len l
  have h4 := join_len ("\n" : Str) (sPat :: plns l)
  rw [List.length_map, List.length_cons] at h2
  rw [List.length_cons, show ("\n" : Str).length = 1 by decide +kernel] at h4
  have h5 : (paText l).length = (Str.join ("\n" : Str) (sPat :: plns l)).length := by
    show (PySem.Txt.join ("\n" : Str) (sPat :: plns l)).length = _
    rw [join_str]
  omega
theorem pa_ok {l : List Pt} (h : Wfs l) : ∀ z ∈ sPat :: plns l, LineOk z := fun z hz => by
  rcases List.mem_cons.mp hz with rfl | hz
  · exact line_one wd_pat
  · exact plns_ok h z hz
theorem jW_inj {ws us : List Str} (w0 : ws ≠ []) (w1 : ∀ x ∈ ws, Wd x) (u0 : us ≠ []) (u1 : ∀ x ∈ us, Wd x) (h : jW ws = jW us) : ws = us := by
  have a := split_words w0 w1
  have b := split_words u0 u1
  rw [show PySem.Txt.join (" " : Str) ws = PySem.Txt.join (" " : Str) us from h, b] at a
  exact a.symm
/-- what is left of the innermost group is no matter of the heap -/
theorem Gps.reset {H0 U H : Hp} {G a : Addr} {vs : List V} {g r r' : List Pt} {qs : List Addr} {os : List Gp} (n : Gps H0 G U H ⟨a, vs, g, r, qs⟩ os) : Gps H0 G U H ⟨a, vs, g, r', qs⟩ os :=
  ⟨n.base, n.sub, n.gat, n.gfree, ⟨n.cur.at_, n.cur.free, n.cur.ne, n.cur.grp, n.cur.own⟩, n.out, n.nd⟩
/-- the pattern of a text -/
def spReadP : Sp := fun vs H Q _ => ∃ l, vs = [.str (paText l)] ∧ Good 5000 100 l ∧ ∀ D H' U us qs, Same H U → Same U H' → U D = none → H' D = some (.lst us) → Grp U us l qs → (∀ q ∈ qs, H q = none) → Q (.ref D) H'
section
variable {P : Program} {w : World} {K : PySem.W.Frag} {mg : Str → Option Value} {base : Heap}
abbrev sread_pattern : Stmt := top 46
theorem scread_pattern : FnScope ["text", "lines", "groups", "index", "line"] ["text"] (defScope sread_pattern) := ⟨rfl, rfl, rfl, by decide +kernel, rfl, by decide +kernel, by decide +kernel⟩
theorem ok_readp {f f1 f2 f3 : Addr} {fd fd1 fd2 fd3 : FuncData} (F : Fun K "read_pattern" "read_pattern" sread_pattern f fd) (T : Txt K mg base)
    (D_lines_of : Df P w K mg base CX0 1 "lines_of" f1 fd1 ["text"] spLines) (D_row_words : Df P w K mg base CX0 2 "row_words" f2 fd2 ["line"] spWords)
    (D_read_item : Df P w K mg base CX0 2 "read_item" f3 fd3 ["groups", "words"] spItem) : FnG P w K mg base CX0 3 f fd ["text"] spReadP := by
  refine okG F scread_pattern (fun vs H Q E h => ?_) (fun cdv A outer s H vs Q E hc hr h => ?_)
  · obtain ⟨l, rfl, _⟩ := h
    rfl
  obtain ⟨l, rfl, g, q⟩ := h
  refine ⟨_, (pss_cons (ps_set (i := 1) scread_pattern.nd rfl (Or.inl rfl) (pe_d D_lines_of hc (hr.mono (by omega)) (by rfl) (fun _ => passN) (pa_cons (pv 0) pa_nil)))
 (pss_cons (ps_if (pt_cmpR (op_neD hr.units) (pe_d D_row_words hc (hr.mono (by omega)) (by rfl) (fun _ => passN) (pa_cons (pe_ix ix_list (pv 1) pe_int (fun _ _ => rfl)) pa_nil)) (pe_lst (pa_cons pe_str pa_nil)) (nomark _))
  (pss_one ps_never) pss_nil)
 (pss_cons (ps_set (i := 2) scread_pattern.nd rfl (Or.inl rfl) (pe_lst (pa_cons (pe_lst pa_nil) pa_nil)))
 (pss_cons (ps_for (passes_of rfl) rfl (pi_enum (by rfl) T.z_enumerate (pa_cons (pv 1) pa_nil)) (pg_tup (by rfl) (pgs_cons (pg_name (i := 3) scread_pattern.nd rfl (Or.inl rfl)) (pgs_cons (pg_name (i := 4) scread_pattern.nd rfl (Or.inl rfl)) pgs_nil)))
  (pss_one (ps_if (PW.pt (pw_and (pt_cmpR op_gt (pv 3) pe_int (nomark _)) (pw_and1 (pt_not (pt_val (pe_d D_read_item hc (hr.mono (by omega)) (by rfl) (fun _ => passN) (pa_cons (pv 2) (pa_cons (pe_d D_row_words hc (hr.mono (by omega)) (by rfl) (fun _ => passN) (pa_cons (pv 4) pa_nil)) pa_nil))))))))
  (pss_one ps_never) pss_nil)))
 (pss_cons (ps_if (PW.pt (pw_or (pt_cmpR op_gt (pe_callB call_len_seq (by rfl) T.z_len (by decide +kernel) (pa_cons (pv 2) pa_nil)) pe_int (nomark _)) (pw_or1 (pt_cmpR op_eq (pe_callB call_len_seq (by rfl) T.z_len (by decide +kernel) (pa_cons (pe_ix ix_list (pv 2) pe_int (fun _ _ => rfl)) pa_nil)) pe_int (nomark _)))))
  (pss_one ps_never) pss_nil)
 (pss_one (ps_ret (pe_ix ix_list (pv 2) pe_int (fun _ _ => rfl))))))))), ?_⟩
  have z16 := sizeLine_eq
  have ok := pa_ok g.wf
  refine ⟨_, rfl, sPat :: plns l, rfl, List.cons_ne_nil _ _, fun x hx => (ok x hx).no, pa_len g.nd, fun L hL => ?_⟩
  have s1 : Same H (upd H L (.lst ((sPat :: plns l).map V.str))) := upd_new hL
  refine ⟨_, rfl, L, _, _, _, rfl, rfl, SqL.of upd_same, atI_nat (j := 0) rfl, [sPat], ?_, List.cons_ne_nil _ _, fun x hx => by obtain rfl := List.mem_singleton.mp hx; exact wd_pat, (show 1 ≤ 100 by decide), fun W hW => ⟨by show 1 ≤ sizeLine; omega, fun W2 hW2 => ?_⟩⟩
  · rw [join_one]
    rfl
  have s2 := s1.trans (upd_new hW (o := .lst [.str sPat]))
  have s3 := s2.trans (upd_new hW2 (o := .lst [.str sPat]))
  refine ⟨.list [.str sPat], .list [.str sPat], .lst (SqL.of (upd_new hW2 _ _ upd_same)) (.cons (.str _) .nil), .lst (SqL.of upd_same) (.cons (.str _) .nil), by decide +kernel, by decide +kernel, ?_⟩
  rw [show (!(PyData.list [.str sPat]).eqv (.list [.str sPat])) = false by decide +kernel]
  refine ⟨_, rfl, iteF ⟨by show 0 ≤ sizeLine; omega, fun a0 ha0 => ⟨by show 1 ≤ sizeLine; omega, fun G hG => ?_⟩⟩⟩
  have hLL : upd (upd (upd H L (.lst ((sPat :: plns l).map V.str))) W (.lst [.str sPat])) W2 (.lst [.str sPat]) L = some (.lst ((sPat :: plns l).map V.str)) := upd_new hW2 _ _ (upd_new hW _ _ upd_same)
  generalize eH : upd (upd (upd H L (.lst ((sPat :: plns l).map V.str))) W (.lst ([sPat].map V.str))) W2 (.lst [V.str sPat]) = H2 at ha0 hG ⊢
  have eH' : upd (upd (upd H L (.lst ((sPat :: plns l).map V.str))) W (.lst [.str sPat])) W2 (.lst [.str sPat]) = H2 := eH
  rw [eH'] at hLL s3
  have a0G : a0 ≠ G := fun z => by
    rw [← z, upd_same] at hG
    exact nomatch hG
  have g0 : Gps H2 G H2 (upd (upd H2 a0 (.lst [])) G (.lst [.ref a0])) ⟨a0, [], [], l, []⟩ [] :=
    ⟨Same.refl _, (upd_new ha0).trans (upd_new hG), upd_same, none_upd hG, ⟨by rw [upd_ne a0G]; exact upd_same, ha0, a0G, .nil, (fun q hq => nomatch hq)⟩, (fun e he => nomatch he), by show [a0].Nodup; simp⟩
  have lm : ((sPat :: plns l).map V.str).length = (plns l).length + 1 := by rw [List.length_map, List.length_cons]
  refine ⟨_, rfl, L, _, rfl, SqL.of (g0.sub _ _ hLL), ?_⟩
  refine for_it walk_enum (fun i σ H' => ∃ o3 o4 U c os, σ = [some (.str (paText l)), some (.ref L), some (.ref G), o3, o4] ∧ Gps H2 G U H' c os ∧ (sPat :: plns l).drop (max i 1) = left c.r (prs os) ∧ whole (c.g ++ c.r) (prs os) = l)
    ⟨none, none, H2, _, [], rfl, g0, rfl, rfl⟩ (fun i σ H' _ ⟨_, _, _, _, _, _, n, _⟩ => SqL.of (n.sub _ _ (n.base _ _ hLL))) ?_ ?_
  · rintro i x _ H3 H4 hi ⟨o3, o4, U, c, os, rfl, n, hd, hw⟩ ⟨Tp, x1, x2, rfl, hT, rfl, hx1, hx2⟩
    have ex1 : x1 = .int (i : Nat) := (Option.some.inj hx1).symm
    subst ex1
    have n4 := n.keep (upd_new hT (o := .tup [.int (i : Nat), x2]))
    rw [lm] at hi
    refine ⟨Tp, [.int (i : Nat), x2], rfl, SqT.of upd_same, rfl, _, _, rfl, _, _, rfl, rfl, ?_⟩
    have hx2 : ((sPat :: plns l).map V.str)[i]? = some x2 := hx2
    rw [List.getElem?_map] at hx2
    obtain ⟨z, hz, rfl⟩ := Option.map_eq_some_iff.mp hx2
    refine ⟨_, rfl, _, _, rfl, rfl, _, rfl, ?_⟩
    by_cases i0 : i = 0
    · subst i0
      exact iteF ⟨_, _, U, c, os, rfl, n4, hd, hw⟩
    rw [decide_eq_true (show (0 : Int) < (i : Nat) by omega)]
    have mi : max i 1 = i := by omega
    have mi2 : max (i + 1) 1 = i + 1 := by omega
    rw [mi] at hd
    have hil : i < (sPat :: plns l).length := by rw [List.length_cons]; omega
    rw [List.drop_eq_getElem_cons hil] at hd
    have ez : (sPat :: plns l)[i] = z := by
      rw [List.getElem?_eq_getElem hil] at hz
      exact Option.some.inj hz
    rw [ez] at hd
    have dp := whole_deps (prs os) (c.g ++ c.r)
    have nw1 := whole_nods (prs os) (c.g ++ c.r)
    have wf := whole_wf (prs os) (c.g ++ c.r)
    rw [hw] at dp nw1 wf
    have wfl := wf g.wf
    have gd := g.dp
    have gn := g.nd
    have nl := nods_len (c.g ++ c.r)
    rw [List.length_append] at nl
    rw [List.length_map] at dp
    obtain ⟨ws, w0, w1, w2, rfl⟩ := ok z (by rw [← ez]; exact List.getElem_mem _)
    refine iteT ⟨_, rfl, _, rfl, ws, rfl, w0, w1, w2, fun Wd hWd => ?_⟩
    have n5 := n4.keep (upd_new hWd (o := .lst (ws.map V.str)))
    have cl := n5.cur.grp.len
    have gat := n5.gat
    refine ⟨G, Wd, c.a, (os.map (·.a)).reverse, c.vs, rfl, gat, n5.cur.at_, by omega, by rw [List.length_reverse, List.length_map]; omega, ?_⟩
    obtain ⟨ca, cvs, cg, cr, cqs⟩ := c
    dsimp only at hd hw wfl nl cl gat n5 dp nw1
    match cr, os with
    | [], [] => exact nomatch hd
    | [], e :: os' =>
      obtain ⟨h1, h2⟩ := List.cons.inj (show jW ws :: _ = sEnd :: left e.r (prs os') from hd)
      obtain rfl := jW_inj w0 w1 (List.cons_ne_nil sEnd []) (by intro x hx; obtain rfl := List.mem_singleton.mp hx; exact wd_end) (h1.trans (join_one _).symm)
      have he := n5.out e List.mem_cons_self
      have el := he.grp.len
      have hw2 : whole (e.g ++ .rep (cg ++ []) :: e.r) (prs os') = l := hw
      have nw2 := whole_nods (prs os') (e.g ++ .rep (cg ++ []) :: e.r)
      rw [hw2] at nw2
      have nl2 := nods_len (e.g ++ .rep (cg ++ []) :: e.r)
      rw [List.length_append] at nl2
      have cp := wfl.2 (List.cons_ne_nil _ _)
      rw [List.append_nil] at cp
      refine .inr (.inr ⟨upd_same, by show 1 ≤ cvs.length; omega, (os'.map (·.a)).reverse, e.a, e.vs, by rw [List.map_cons, List.reverse_cons], he.ne, he.at_, by omega, fun H5 t s5 ht => ⟨_, rfl, iteF ?_⟩⟩)
      refine ⟨_, _, _, _, os', rfl, (n5.keep s5).close ht, ?_, ?_⟩
      · rw [mi2]; exact h2
      · show whole (e.g ++ [.rep cg] ++ e.r) (prs os') = l
        rw [whole_step, ← hw2, List.append_nil]
    | .ch k :: r1, os =>
      rw [left_ch] at hd
      obtain ⟨h1, h2⟩ := List.cons.inj hd
      have lk : low k = true := wfs_at wfl.1 (i := cg.length) (p := .ch k) (by rw [List.getElem?_append_right (Nat.le_refl _), Nat.sub_self]; rfl)
      obtain rfl := jW_inj w0 w1 (List.cons_ne_nil _ _) (ltr_wd lk) h1
      refine .inl ⟨k, upd_same, lk, fun H5 s5 => ⟨_, rfl, iteF ?_⟩⟩
      refine ⟨_, _, _, ⟨ca, cvs ++ [.str ⟨#[k]⟩], cg ++ [.ch k], r1, cqs⟩, os, rfl, Gps.reset (n5.keep s5).letter, ?_, ?_⟩
      · rw [mi2]; exact h2
      · show whole (cg ++ [.ch k] ++ r1) (prs os) = l
        rw [whole_step]
        exact hw
    | .rep k :: r1, os =>
      rw [left_rep (g := cg)] at hd
      obtain ⟨h1, h2⟩ := List.cons.inj hd
      obtain rfl := jW_inj w0 w1 (List.cons_ne_nil sRep []) (by intro x hx; obtain rfl := List.mem_singleton.mp hx; exact wd_rep) (h1.trans (join_one _).symm)
      have dk := deps_at (l := cg ++ .rep k :: r1) (i := cg.length) (p := .rep k) (by rw [List.getElem?_append_right (Nat.le_refl _), Nat.sub_self]; rfl)
      have ek : (Pt.rep k).dep = deps k + 1 := rfl
      refine .inr (.inl ⟨upd_same, by rw [List.length_reverse, List.length_map]; omega, fun H5 p s5 hp => ⟨_, rfl, iteF ?_⟩⟩)
      refine ⟨_, _, _, ⟨p, [], [], k, []⟩, ⟨ca, cvs, cg, r1, cqs⟩ :: os, rfl, (n5.keep s5).open hp, ?_, ?_⟩
      · rw [mi2]; exact h2
      · exact hw
  · rintro _ H3 ⟨o3, o4, U, c, os, rfl, n, hd, hw⟩
    rw [lm, show max ((plns l).length + 1) 1 = (sPat :: plns l).length by rw [List.length_cons]; omega, List.drop_length] at hd
    obtain ⟨e1, e2⟩ := left_nil hd.symm
    obtain rfl : os = [] := List.map_eq_nil_iff.mp e2
    rw [e1, List.append_nil] at hw
    have hw : c.g = l := hw
    have gat : H3 G = some (.lst [.ref c.a]) := n.gat
    have cl := n.cur.grp.len
    have gne := g.ne
    refine ⟨_, rfl, G, _, rfl, .inl (SqL.of gat), _, _, rfl, rfl, _, rfl, iteF ?_⟩
    refine ⟨_, rfl, G, _, _, _, rfl, rfl, SqL.of gat, atI_nat (j := 0) rfl, c.a, _, rfl, .inl (SqL.of n.cur.at_), rfl, _, rfl, ?_⟩
    refine iteB (fun x => ?_) fun _ => ?_
    · have x1 := of_decide_eq_true x
      injection x1 with x1
      rw [cl, hw] at x1
      omega
    have gr := n.cur.grp
    rw [hw] at gr
    exact ⟨_, rfl, G, _, _, _, rfl, rfl, SqL.of gat, atI_nat (j := 0) rfl, q c.a H3 U c.vs c.qs (s3.trans n.base) n.sub n.cur.free n.cur.at_ gr fun x hx => none_of s3 (n.cur.own x hx).2⟩
end
end KW

namespace KW
open PySem L2 Gd Zn KM KP
abbrev Big : Nat := 1000000000000000000000000000000
/-- an entry: a state and its costs, in a list or in a tuple -/
inductive EnAt (H : Hp) (b : Bool) : List V → List (Nat × List (Option Nat)) → Prop
  | nil : EnAt H b [] []
  | cons {t c : Addr} {vs : List V} {s : Nat} {cs : List (Option Nat)} {l : List (Nat × List (Option Nat))} : H t = some (.tup [.int (s : Nat), .ref c]) → H c = some (so b (cs.map oV)) → EnAt H b vs l → EnAt H b (.ref t :: vs) ((s, cs) :: l)
def EnOk (e : Nat × List (Option Nat)) : Prop := e.1 < Big ∧ (∀ o ∈ e.2, oOk o) ∧ e.2.length ≤ 90
theorem EnAt.same {H H' : Hp} {b : Bool} (e : Same H H') : ∀ {vs : List V} {l : List (Nat × List (Option Nat))}, EnAt H b vs l → EnAt H' b vs l
  | _, _, .nil => .nil
  | _, _, .cons h g r => .cons (e _ _ h) (e _ _ g) (EnAt.same e r)
theorem EnAt.len {H : Hp} {b : Bool} : ∀ {vs : List V} {l : List (Nat × List (Option Nat))}, EnAt H b vs l → vs.length = l.length
  | _, _, .nil => rfl
  | _, _, .cons _ _ r => by rw [List.length_cons, List.length_cons, r.len]
theorem EnAt.get {H : Hp} {b : Bool} : ∀ {vs : List V} {l : List (Nat × List (Option Nat))} {i : Nat} {v : V}, EnAt H b vs l → vs[i]? = some v → ∃ t c s cs, v = .ref t ∧ l[i]? = some (s, cs) ∧ H t = some (.tup [.int (s : Nat), .ref c]) ∧ H c = some (so b (cs.map oV))
  | _, _, 0, _, .cons h g _, e => by
    injection e with e
    exact ⟨_, _, _, _, e.symm, rfl, h, g⟩
  | _, _, i + 1, _, .cons _ _ r, e => EnAt.get (i := i) r e
def spEntry : Sp := fun vs H Q _ => ∃ (b : Bool) (t c : Addr) (s : Nat) (cs : List (Option Nat)), vs = [.ref t] ∧ H t = some (.tup [.int (s : Nat), .ref c]) ∧ H c = some (so b (cs.map oV)) ∧ EnOk (s, cs) ∧ ∀ H', Same H H' → Q (.bl true) H'
section
variable {P : Program} {w : World} {K : PySem.W.Frag} {mg : Str → Option Value} {base : Heap}
abbrev sis_bounds_entry : Stmt := top 50
theorem scis_bounds_entry : FnScope ["value", "cost"] ["value"] (defScope sis_bounds_entry) := ⟨rfl, rfl, rfl, by decide +kernel, rfl, by decide +kernel, by decide +kernel⟩
theorem ok_entry {f f1 f2 : Addr} {fd fd1 fd2 : FuncData} (F : Fun K "is_bounds_entry" "is_bounds_entry" sis_bounds_entry f fd) (T : Txt K mg base)
    (D_is_index : Df P w K mg base CX0 2 "is_index" f1 fd1 ["value", "size"] spIsIndex) (D_is_list : Df P w K mg base CX0 1 "is_list" f2 fd2 ["value"] spIsList) : FnG P w K mg base CX0 3 f fd ["value"] spEntry := by
  refine okG F scis_bounds_entry (fun vs H Q E h => ?_) (fun cdv A outer s H vs Q E hc hr h => ?_)
  · obtain ⟨b, t, c, n, cs, rfl, _⟩ := h
    rfl
  obtain ⟨b, t, c, n, cs, rfl, ht, hcs, ok, q⟩ := h
  refine ⟨_, (pss_cons (ps_if (PW.pt (pw_or (pt_not (pt_val (pe_callB call_isk (by rfl) T.z_isinstance (by decide +kernel) (pa_cons (pv 0) (pa_cons (pe_bltn (v := .ty "tuple") (by rfl) T.z_tuple (by decide +kernel) rfl) pa_nil))))) (pw_or (pt_cmpR op_ne (pe_callB call_len_seq (by rfl) T.z_len (by decide +kernel) (pa_cons (pv 0) pa_nil)) pe_int (nomark _)) (pw_or1 (pt_not (pt_val (pe_d D_is_index hc (hr.mono (by omega)) (by rfl) (fun _ => passN) (pa_cons (pe_ix ix_tup (pv 0) pe_int (fun _ _ => rfl)) (pa_cons (pe_k (by rfl) T.g_NUMBER_LIMIT) pa_nil)))))))))
  (pss_one (ps_ret pe_bl)) pss_nil)
 (pss_one (ps_ret (pe_and (pe_d D_is_list hc (hr.mono (by omega)) (by rfl) (fun _ => passN) (pa_cons (pe_ix ix_tup (pv 0) pe_int (fun _ _ => rfl)) pa_nil)) (pe_one (pe_callB (cr_all rfl) (by rfl) T.z_all (by decide +kernel) (pa_cons (pe_lc (own := [("cost", 1)]) (g := gName 1) rfl scis_bounds_entry.nd (pi_sq (pe_ix ix_tup (pv 0) pe_int (fun _ _ => rfl))) (blkOk_by (N := ["value", "cost"]) (sc := defScope sis_bounds_entry) (by decide +kernel)) (fun _ _ _ _ _ => pg_name (i := 1) scis_bounds_entry.nd rfl (Or.inl rfl)) (fun _ _ _ _ _ => pts_nil) (fun _ _ _ _ _ => (pe_or (pe_cmpR op_isN (pv 1) pe_non (nomark _)) (pe_one (pe_d D_is_index hc (hr.mono (by omega)) (by rfl) (fun _ => passN) (pa_cons (pv 1) (pa_cons (pe_k (by rfl) T.g_NUMBER_LIMIT) pa_nil))))))) pa_nil))))))), ?_⟩
  have z16 := sizeLine_eq
  have ek : kind H (.ref t) = .tup := by
    show kindO (H t) = .tup
    rw [ht]
    rfl
  refine ⟨_, rfl, .ref t, _, rfl, .inr (.inr (.inr (.inr (.inl rfl)))), by unfold Pv; rw [ek]; exact (fun z => nomatch z), _, rfl, ?_⟩
  rw [ek]
  refine iteF ⟨_, rfl, t, _, rfl, .inr (SqT.of ht), rfl, _, rfl, iteF ?_⟩
  have b0 : ((n : Nat) : Int) < 1000000000000000000000000000000 := by
    have b1 : n < 1000000000000000000000000000000 := ok.1
    omega
  refine ⟨_, rfl, t, _, _, _, rfl, rfl, SqT.of ht, atI_nat (j := 0) rfl, _, _, rfl, by omega, b0, _, rfl, iteF ?_⟩
  refine ⟨_, rfl, t, _, _, _, rfl, rfl, SqT.of ht, atI_nat (j := 1) rfl, b, c, _, rfl, hcs, fun H1 s1 => ⟨_, rfl, iteT ?_⟩⟩
  have ln : cs.length ≤ 90 := ok.2.2
  refine ⟨_, rfl, t, _, _, _, rfl, rfl, SqT.of (s1 _ _ ht), atI_nat (j := 1) rfl, b, c, _, rfl, so_sq (s1 _ _ hcs), fun D hD => ?_⟩
  refine lc_it walk_sq (fun i H' => Vls H1 D ((cs.take i).map fun _ => V.bl true) H') (Vls.nil hD) (fun i H' _ v => so_sq (v.same _ _ (s1 _ _ hcs))) ?_ ?_
  · rintro i v H2 _ hi vl ⟨rfl, hx⟩
    rw [List.getElem?_map] at hx
    obtain ⟨o, ho, rfl⟩ := Option.map_eq_some_iff.mp hx
    have oo := ok.2.1 o (List.mem_of_getElem? ho)
    have add := vl.add (y := V.bl true) (by rw [List.length_map, List.length_take]; omega)
    rw [show (cs.take i).map (fun _ => V.bl true) ++ [V.bl true] = (cs.take (i + 1)).map (fun _ => V.bl true) by rw [take_succ ho, List.map_append]; rfl] at add
    refine ⟨rfl, yes_go ⟨_, rfl, rfl, _, rfl, ?_⟩⟩
    cases o with
    | none => exact iteT add
    | some j =>
      have b2 : j < 1000000000000000000000000000000 := oo
      exact iteF ⟨_, rfl, _, _, rfl, by omega, by omega, add⟩
  intro H2 vl
  rw [List.length_map, List.take_length] at vl
  refine ⟨D, cs.map fun _ => true, rfl, SqL.of (by rw [List.map_map]; exact vl.at_), ?_⟩
  rw [show (cs.map fun _ => true).all id = true by simp]
  exact q _ (s1.trans vl.same)
/-- a table's heap, and its check -/
def TbAt (H : Hp) (b : Bool) (v : V) (l : List (Nat × List (Option Nat))) : Prop := ∃ p us, v = .ref p ∧ H p = some (so b us) ∧ EnAt H b us l
def spIsB : Sp := fun vs H Q _ => ∃ (b : Bool) (v : V) (l : List (Nat × List (Option Nat))) (m : Nat), vs = [v] ∧ TbAt H b v l ∧ (∀ e ∈ l, EnOk e ∧ e.2.length = m) ∧ l.length ≤ 7000 ∧ ∀ H', Same H H' → Q (.bl true) H'
def spWrB : Sp := fun vs H Q _ => ∃ (b : Bool) (v : V) (l : List (Nat × List (Option Nat))) (m : Nat), vs = [v] ∧ TbAt H b v l ∧ (∀ e ∈ l, EnOk e ∧ e.2.length = m) ∧ l.length ≤ 7000 ∧ m ≤ 10 ∧ ∀ H', Same H H' → Q (.str (jL (jW ["bounds", nw l.length] :: l.map fun e => jW (nw e.1 :: e.2.map oW)))) H'
end
end KW

namespace Gd
open PySem L2
theorem sIx_nat {n d i : Nat} (h : i ≤ n) : HT.sIx n d (some (i : Int)) = i := by
  rw [HT.sIx_nat, Nat.min_eq_left h]
theorem cut_to {xs : List V} {i : Nat} (h : i ≤ xs.length) : cutV xs none (some (i : Int)) = xs.take i := by
  unfold cutV
  rw [sIx_nat h]
  show (xs.drop 0).take (i - 0) = _
  rw [List.drop_zero, Nat.sub_zero]
theorem cut_from {xs : List V} {i : Nat} (h : i ≤ xs.length) : cutV xs (some (i : Int)) none = xs.drop i := by
  unfold cutV
  rw [sIx_nat h]
  show (xs.drop i).take (xs.length - i) = _
  exact List.take_of_length_le (by rw [List.length_drop]; omega)
theorem cut_mid {xs : List V} {i k : Nat} (h : i + k ≤ xs.length) : cutV xs (some (i : Int)) (some ((i + k : Nat) : Int)) = (xs.drop i).take k := by
  unfold cutV
  rw [sIx_nat h, sIx_nat (d := 0) (show i ≤ xs.length by omega), Nat.add_sub_cancel_left]
theorem ixN_nat {n i : Nat} (h : i < n) : ixN n (i : Int) = some i := by
  unfold ixN
  rw [if_pos (by omega), if_pos (by omega)]
  rfl
end Gd

namespace KW
open PySem L2 Gd Zn KM KP
/-- the entry of a line's words -/
def spBRow : Sp := fun vs H Q _ => ∃ (W B : Addr) (us : List V) (s : Nat) (cs : List (Option Nat)), vs = [.ref W, .ref B] ∧ H W = some (.lst ((nw s :: cs.map oW).map V.str)) ∧ EnOk (s, cs) ∧ H B = some (.lst us) ∧
  (us = [] ∨ ∃ (t c : Addr) (s0 : Nat) (cs0 : List (Option Nat)) (r : List V), us = .ref t :: r ∧ H t = some (.tup [.int (s0 : Nat), .ref c]) ∧ H c = some (.lst (cs0.map oV)) ∧ cs0.length = cs.length) ∧
  ∀ t c H', Same H H' → H t = none → H c = none → H' t = some (.tup [.int (s : Nat), .ref c]) → H' c = some (.lst (cs.map oV)) → Q (.ref t) H'
section
variable {P : Program} {w : World} {K : PySem.W.Frag} {mg : Str → Option Value} {base : Heap}
abbrev sbounds_row : Stmt := top 52
theorem scbounds_row : FnScope ["words", "before", "entry", "word"] ["words", "before"] (defScope sbounds_row) := ⟨rfl, rfl, rfl, by decide +kernel, rfl, by decide +kernel, by decide +kernel⟩
theorem ok_brow {f f1 f2 : Addr} {fd fd1 fd2 : FuncData} (F : Fun K "bounds_row" "bounds_row" sbounds_row f fd) (T : Txt K mg base)
    (D_parse_count_d : Dd P w K mg base CX0 2 "parse_count" f1 fd1 ["text", "minimum", "maximum"] [.int 0, .non] spParse0) (D_is_number_word : Df P w K mg base CX0 3 "is_number_word" f2 fd2 ["word"] spIsNumW) : FnG P w K mg base CX0 4 f fd ["words", "before"] spBRow := by
  refine okG F scbounds_row (fun vs H Q E h => ?_) (fun cdv A outer s H vs Q E hc hr h => ?_)
  · obtain ⟨W, B, us, n, cs, rfl, _⟩ := h
    rfl
  obtain ⟨W, B, us, n, cs, rfl, hW, ok, hB, hus, q⟩ := h
  refine ⟨_, (pss_cons (ps_if (PW.pt (pw_or (pt_cmpR op_eq (pe_callB call_len_seq (by rfl) T.z_len (by decide +kernel) (pa_cons (pv 0) pa_nil)) pe_int (nomark _)) (pw_or (pt_cmpR op_isN (pe_dd D_parse_count_d hc (hr.mono (by omega)) (by rfl) (fun _ => passN) (pa_cons (pe_ix ix_list (pv 0) pe_int (fun _ _ => rfl)) pa_nil)) pe_non (nomark _)) (pw_or1 (pt_not (pt_val (pe_callB (cr_all rfl) (by rfl) T.z_all (by decide +kernel) (pa_cons (pe_lc (own := [("word", 3)]) (g := gName 3) rfl scbounds_row.nd (pi_list (pv 0)) (blkOk_by (N := ["words", "before", "entry", "word"]) (sc := defScope sbounds_row) (by decide +kernel)) (fun _ _ _ _ _ => pg_name (i := 3) scbounds_row.nd rfl (Or.inl rfl)) (fun _ _ _ _ _ => pts_nil) (fun _ _ _ _ _ => (pe_d D_is_number_word hc (hr.mono (by omega)) (by rfl) (fun _ => passN) (pa_cons (pv 3) pa_nil)))) pa_nil))))))))
  (pss_one (ps_ret pe_non)) pss_nil)
 (pss_cons (ps_set (i := 2) scbounds_row.nd rfl (Or.inl rfl) (pe_tup (pa_cons (pe_dd D_parse_count_d hc (hr.mono (by omega)) (by rfl) (fun _ => passN) (pa_cons (pe_ix ix_list (pv 0) pe_int (fun _ _ => rfl)) pa_nil)) (pa_cons (pe_lc (own := [("word", 3)]) (g := gName 3) rfl scbounds_row.nd (pi_list (pe_slice sl_list (pv 0) (po_some pe_int) po_none)) (blkOk_by (N := ["words", "before", "entry", "word"]) (sc := defScope sbounds_row) (by decide +kernel)) (fun _ _ _ _ _ => pg_name (i := 3) scbounds_row.nd rfl (Or.inl rfl)) (fun _ _ _ _ _ => pts_nil) (fun _ _ _ _ _ => (pe_dd D_parse_count_d hc (hr.mono (by omega)) (by rfl) (fun _ => passN) (pa_cons (pv 3) pa_nil)))) pa_nil))))
 (pss_cons (ps_if (PW.pt (pw_and (pt_truth (pv 1) (by intro _; rfl)) (pw_and1 (pt_cmpR op_ne (pe_callB call_len (by rfl) T.z_len (by decide +kernel) (pa_cons (pe_ix ix_tup (pe_ix ix_list (pv 1) pe_int (fun _ _ => rfl)) pe_int (fun _ _ => rfl)) pa_nil)) (pe_callB call_len (by rfl) T.z_len (by decide +kernel) (pa_cons (pe_ix ix_tup (pv 2) pe_int (fun _ _ => rfl)) pa_nil)) (nomark _)))))
  (pss_one (ps_ret pe_non)) pss_nil)
 (pss_one (ps_ret (pv 2)))))), ?_⟩
  have z16 := sizeLine_eq
  have ln : cs.length ≤ 90 := ok.2.2
  have on : oC (nw n) = .int (n : Nat) := oC_of (some n) ok.1
  have tn : Tx 100000 (nw n) := (nw_tx ok.1).mono (by decide)
  have oks : ∀ x ∈ nw n :: cs.map oW, ∃ o, x = oW o ∧ oOk o := fun x hx => by
    rcases List.mem_cons.mp hx with rfl | hx
    · exact ⟨some n, rfl, ok.1⟩
    · obtain ⟨o, ho, rfl⟩ := List.mem_map.mp hx
      exact ⟨o, rfl, ok.2.1 o ho⟩
  refine ⟨_, rfl, W, _, rfl, .inl (SqL.of hW), rfl, _, rfl, ?_⟩
  refine iteB (fun x => ?_) fun _ => ?_
  · have x1 := of_decide_eq_true x
    injection x1 with x1
    rw [List.length_map, List.length_cons] at x1
    omega
  refine ⟨_, rfl, W, _, _, _, rfl, rfl, SqL.of hW, atI_nat (j := 0) rfl, nw n, rfl, tn, fun H1 s1 => ?_⟩
  rw [on]
  refine ⟨rfl, _, rfl, iteF ⟨_, rfl, W, rfl, ⟨_, SqL.of (s1 _ _ hW)⟩, fun D hD => ?_⟩⟩
  refine lc_list (xs := (nw n :: cs.map oW).map V.str) (fun i H' => Vls H1 D (((nw n :: cs.map oW).take i).map fun _ => V.bl true) H') (Vls.nil hD) (fun i H' _ v => SqL.of (v.same _ _ (s1 _ _ hW))) ?_ ?_
  · rintro i v H2 hx vl
    rw [List.getElem?_map] at hx
    obtain ⟨x, hx2, rfl⟩ := Option.map_eq_some_iff.mp hx
    obtain ⟨o, rfl, oo⟩ := oks x (List.mem_of_getElem? hx2)
    refine ⟨wipe1 _ _ _, yes_go ⟨_, rfl, o, rfl, oo, fun H3 s3 => ?_⟩⟩
    have := (vl.ext s3).add (y := V.bl true) (by rw [List.length_map, List.length_take, List.length_cons, List.length_map]; omega)
    rw [show ((nw n :: cs.map oW).take i).map (fun _ => V.bl true) ++ [V.bl true] = ((nw n :: cs.map oW).take (i + 1)).map (fun _ => V.bl true) by rw [take_succ hx2, List.map_append]; rfl] at this
    exact this
  intro H2 vl
  rw [List.length_map, List.take_length] at vl
  refine ⟨D, (nw n :: cs.map oW).map fun _ => true, rfl, SqL.of (by rw [List.map_map]; exact vl.at_), _, rfl, ?_⟩
  rw [show ((nw n :: cs.map oW).map fun _ => true).all id = true by simp]
  refine iteF ?_
  have s2 := s1.trans vl.same
  refine ⟨_, rfl, W, _, _, _, rfl, rfl, SqL.of (s2 _ _ hW), atI_nat (j := 0) rfl, nw n, rfl, tn, fun H3 s3 => ?_⟩
  rw [on]
  have s4 := s2.trans s3
  refine ⟨_, rfl, 1, rfl, W, _, rfl, SqL.of (s4 _ _ hW), fun S hS => ⟨S, rfl, ⟨_, SqL.of upd_same⟩, fun D2 hD2 => ?_⟩⟩
  have eC : cutV ((nw n :: cs.map oW).map V.str) (some 1) none = (cs.map oW).map V.str := by
    rw [show (1 : Int) = ((1 : Nat) : Int) from rfl, cut_from (by rw [List.length_map, List.length_cons]; omega)]
    rfl
  have s5 := s4.trans (upd_new hS (o := .lst (cutV ((nw n :: cs.map oW).map V.str) (some 1) none)))
  refine lc_list (xs := (cs.map oW).map V.str) (fun i H' => Vls (upd H3 S (.lst (cutV ((nw n :: cs.map oW).map V.str) (some 1) none))) D2 ((cs.take i).map oV) H') (Vls.nil hD2) (fun i H' _ v => SqL.of (v.same _ _ (by rw [← eC]; exact upd_same))) ?_ ?_
  · rintro i v H4 hx vl
    rw [List.getElem?_map, List.getElem?_map] at hx
    obtain ⟨x, hx2, rfl⟩ := Option.map_eq_some_iff.mp hx
    obtain ⟨o, ho, rfl⟩ := Option.map_eq_some_iff.mp hx2
    have oo := ok.2.1 o (List.mem_of_getElem? ho)
    refine ⟨wipe1 _ _ _, yes_go ⟨_, rfl, oW o, rfl, (wd_oW oo).1.mono (by decide), fun H5 s5 => ?_⟩⟩
    have := (vl.ext s5).add (y := oV o) (by rw [List.length_map, List.length_take]; omega)
    rw [show (cs.take i).map oV ++ [oV o] = (cs.take (i + 1)).map oV by rw [take_succ ho, List.map_append]; rfl] at this
    rw [oC_of o oo]
    exact this
  intro H4 vl
  rw [List.length_map, List.length_map, List.take_length] at vl
  have s6 := s5.trans vl.same
  refine ⟨by show 2 ≤ sizeLine; omega, fun t ht => ?_⟩
  have s7 := s6.trans (upd_new ht (o := .tup [.int (n : Nat), .ref D2]))
  have hc1 : upd H4 t (.tup [.int (n : Nat), .ref D2]) D2 = some (.lst (cs.map oV)) := upd_new ht _ _ vl.at_
  have fin : Q (.ref t) (upd H4 t (.tup [.int (n : Nat), .ref D2])) := q t D2 _ s7 (none_of s6 ht) (none_of s5 hD2) upd_same hc1
  have hB1 := s7 _ _ hB
  rcases hus with rfl | ⟨t0, c0, n0, cs0, r, rfl, ht0, hc0, el⟩
  · exact ⟨_, rfl, false, .inl ⟨_, SqL.of hB1, rfl⟩, iteF (iteF ⟨_, rfl, fin⟩)⟩
  · refine ⟨_, rfl, true, .inl ⟨_, SqL.of hB1, rfl⟩, iteT ?_⟩
    refine ⟨_, rfl, B, _, _, _, rfl, rfl, SqL.of hB1, atI_nat (j := 0) rfl, t0, _, _, _, rfl, rfl, SqT.of (s7 _ _ ht0), atI_nat (j := 1) rfl, _, _, rfl, .inl ⟨_, SqL.of (s7 _ _ hc0), rfl⟩, _, rfl, t, _, _, _, rfl, rfl, SqT.of upd_same, atI_nat (j := 1) rfl, _, _, rfl, .inl ⟨_, SqL.of hc1, rfl⟩, rfl, _, rfl, ?_⟩
    refine iteB (fun x => ?_) fun _ => ⟨_, rfl, fin⟩
    rw [List.length_map, List.length_map, el] at x
    exact absurd x (by simp)
end
end KW

namespace KW
open PySem L2 Gd Zn KM KP
theorem vls_to {H H' : Hp} {D : Addr} {xs : List V} (s : Same H H') (h : H' D = none) : Vls H D xs (upd H' D (.lst xs)) := ⟨upd_same, s.trans (upd_new h), none_of s h⟩
section
variable {P : Program} {w : World} {K : PySem.W.Frag} {mg : Str → Option Value} {base : Heap}
abbrev s_law_pattern_lines : Stmt := top 61
theorem sc_law_pattern_lines : FnScope ["_law_pattern_here", "_law_found", "_law_item"] ["_law_pattern_here"] (defScope s_law_pattern_lines) := ⟨rfl, rfl, rfl, by decide +kernel, rfl, by decide +kernel, by decide +kernel⟩
theorem ok_lpln {f f2 : Addr} {fd fd2 : FuncData} {m : Nat} {sp0 : Sp} (F : Fun K "_law_pattern_lines" "_law_pattern_lines" s_law_pattern_lines f fd) (T : Txt K mg base)
    (D__law_pattern_lines : Df P w K mg base CX0 m "_law_pattern_lines" f2 fd2 ["_law_pattern_here"] sp0) (h0 : ∀ k, m = k + 1 → sp0 = spPln k) : FnG P w K mg base CX0 (m + 1) f fd ["_law_pattern_here"] (spPln m) := by
  refine okG F sc_law_pattern_lines (fun vs H Q E h => ?_) (fun cdv A outer s H vs Q E hc hr h => ?_)
  · obtain ⟨b, v, l, rfl, _⟩ := h
    rfl
  obtain ⟨b, v, l, rfl, ⟨q0, vs0, rfl, hq, hts⟩, g, q⟩ := h
  refine ⟨_, (pss_cons (ps_set (i := 1) sc_law_pattern_lines.nd rfl (Or.inl rfl) (pe_lst pa_nil))
 (pss_cons (ps_for (passes_of rfl) rfl (pi_sq (pv 0)) (pg_name (i := 2) sc_law_pattern_lines.nd rfl (Or.inl rfl))
  (pss_one (ps_if (pt_val (pe_callB call_isk (by rfl) T.z_isinstance (by decide +kernel) (pa_cons (pv 2) (pa_cons (pe_bltn (v := .ty "tuple") (by rfl) T.z_tuple (by decide +kernel) rfl) pa_nil))))
  (pss_one (ps_set (i := 1) sc_law_pattern_lines.nd rfl (Or.inl rfl) (pe_op op_cat (pe_op op_cat (pe_op op_cat (pv 1) (pe_lst (pa_cons pe_str pa_nil))) (pe_d D__law_pattern_lines hc (hr.mono (by omega)) (by rfl) (fun _ => passN) (pa_cons (pe_ix ix_tup (pv 2) pe_int (fun _ _ => rfl)) pa_nil))) (pe_lst (pa_cons pe_str pa_nil))))) (pss_one (ps_expr (pe_bm PySem.F.plainAttrs_list PySem.F.slot_list_append PySem.F.type_list_append mt_append (pv 1) (pa_cons (pe_op op_add_str pe_str (pv 2)) pa_nil)))))))
 (pss_one (ps_ret (pv 1))))), ?_⟩
  have ln := hts.length
  have z16 := sizeLine_eq
  have gl := g.len
  refine ⟨by show 0 ≤ sizeLine; omega, fun D hD => ?_⟩
  have sD : Same H (upd H D (.lst [])) := upd_new hD
  refine ⟨_, rfl, b, q0, vs0, rfl, so_sq (sD _ _ hq), ?_⟩
  have nl : ∀ i, (plns (l.take i)).length ≤ 10000 := fun i => by
    have h1 := plns_len (l.take i)
    have h2 : nods (l.take i) + nods (l.drop i) = nods l := by rw [← nods_app, List.take_append_drop]
    have := g.nd
    omega
  refine for_it walk_sq (fun i σ H' => ∃ o D, σ = [some (.ref q0), some (.ref D), o] ∧ Vls H D ((plns (l.take i)).map V.str) H') ⟨none, D, rfl, Vls.nil hD⟩ (fun i σ H' _ ⟨_, _, _, s⟩ => so_sq (s.same _ _ hq)) ?_ ?_
  · rintro i x _ H2 _ hi ⟨o, D, rfl, L⟩ ⟨rfl, hx⟩
    obtain ⟨p, hp, hpt⟩ := hts.at hx
    have et := plns_take hp
    have lt : ((plns (l.take i)).map V.str).length ≤ 10000 := by rw [List.length_map]; exact nl i
    have s2 := L.same
    cases hpt with
    | @ch c =>
      have em : Str.ofString "letter " ++ ⟨#[c]⟩ = jW [sLtr, ⟨#[c]⟩] := by
        rw [join_two]
        rfl
      have l7 : ("letter " : Str).length = 7 := by decide +kernel
      have l1 : (⟨#[c]⟩ : Str).length = 1 := rfl
      refine ⟨_, rfl, .str ⟨#[c]⟩, _, rfl, .inr (.inr (.inr (.inr (.inl rfl)))), (fun z => nomatch z), _, rfl, iteF ?_⟩
      refine ⟨_, rfl, .inl ⟨rfl, _, SqL.of L.at_⟩, _, rfl, _, _, rfl, rfl, by omega, D, _, _, rfl, rfl, L.at_, by omega, some (.str ⟨#[c]⟩), D, rfl, ?_⟩
      rw [et, List.map_append, em]
      exact L.put
    | @rep a q1 vs1 k h1 h2 h3 =>
      obtain ⟨gk, hm⟩ := g.part hp
      obtain ⟨m', rfl⟩ : ∃ m', m = m' + 1 := ⟨m - 1, by omega⟩
      have es := h0 m' rfl
      subst es
      have ha := s2 _ _ h1
      have ek : ∀ {G : Hp}, G a = some (.tup [.str sRep, .ref q1]) → kind G (.ref a) = .tup := fun {G} h => by
        show kindO (G a) = .tup
        rw [h]
        rfl
      have nk := plns_len k
      have := gk.nd
      refine ⟨_, rfl, .ref a, _, rfl, .inr (.inr (.inr (.inr (.inl rfl)))), kind_tup ha, _, rfl, ?_⟩
      rw [ek ha]
      refine iteT ⟨_, rfl, by show 1 ≤ sizeLine; omega, fun t1 ht1 => ?_⟩
      refine ⟨D, t1, _, _, rfl, rfl, upd_new ht1 _ _ L.at_, upd_same, by show _ + 1 ≤ _; omega, fun p1 hp1 => ?_⟩
      have L1 := vls_to (xs := (plns (l.take i)).map V.str ++ [V.str sRep]) (s2.trans (upd_new ht1 (o := .lst [.str sRep]))) hp1
      refine ⟨_, rfl, a, _, _, _, rfl, rfl, SqT.of (L1.same _ _ h1), atI_nat (j := 1) rfl, b, .ref q1, k, rfl, ⟨q1, vs1, rfl, L1.same _ _ h2, h3.same L1.same⟩, gk, fun D4 H4 L4 => ?_⟩
      have L5 := L1.ext L4.same
      refine ⟨p1, D4, _, _, rfl, rfl, L5.at_, L4.at_, ?_, fun p2 hp2 => ?_⟩
      · rw [List.length_append, List.length_map (as := plns k)]
        show _ + 1 + _ ≤ _
        omega
      have L6 := vls_to (xs := (plns (l.take i)).map V.str ++ [V.str sRep] ++ (plns k).map V.str) L5.same hp2
      refine ⟨by show 1 ≤ sizeLine; omega, fun t2 ht2 => ⟨p2, t2, _, _, rfl, rfl, upd_new ht2 _ _ L6.at_, upd_same, ?_, fun p3 hp3 => ?_⟩⟩
      · rw [List.length_append, List.length_append, List.length_map (as := plns k)]
        show _ + 1 + _ + 1 ≤ _
        omega
      refine ⟨some (.ref a), p3, rfl, ?_⟩
      rw [et, List.map_append]
      have e : (pln (.rep k)).map V.str = [V.str sRep] ++ ((plns k).map V.str ++ [V.str sEnd]) := by
        show V.str sRep :: ((plns k ++ [sEnd]).map V.str) = _
        rw [List.map_append]
        rfl
      rw [e, ← List.append_assoc, ← List.append_assoc]
      exact vls_to (L6.same.trans (upd_new ht2 (o := .lst [.str sEnd]))) hp3
  · rintro _ H2 ⟨o, D, rfl, L⟩
    rw [ln, List.take_length] at L
    exact ⟨_, rfl, q _ _ L⟩
theorem all_lpln {f : Addr} {fd : FuncData} (F : Fun K "_law_pattern_lines" "_law_pattern_lines" s_law_pattern_lines f fd) (T : Txt K mg base)
    (m0 : mg "_law_pattern_lines" = some (.ref f)) (k0 : PySem.W.keepIn K (.ref f) = true) (b0 : Binds K fd ["_law_pattern_here"] []) : ∀ m, FnG P w K mg base CX0 (m + 1) f fd ["_law_pattern_here"] (spPln m)
  | 0 => ok_lpln (m := 0) F T ⟨no_fn (sp := fun _ _ _ _ => False) (fun _ _ _ _ z => z), m0, k0, b0⟩ (fun k z => absurd z (by omega))
  | m + 1 => ok_lpln (m := m + 1) F T ⟨all_lpln F T m0 k0 b0 m, m0, k0, b0⟩ (fun k z => by
    obtain rfl : m = k := by omega
    rfl)
end
end KW

namespace KW
open PySem L2 Gd Zn KM KP
/-- join within a comprehension: the fragment by its own name -/
theorem pe_joinK {X : Cx} {K : PySem.W.Frag} {o e : Expr} {to te : TE} {apos pos : Pos} (hK : X.K = K) (ho : PE X o to) (he : PE X e te) (h1 : starEach [e] X.env = [(false, eval e X.env)] := by rfl)
    (h2 : attributeBase o ("join" : Str) X.env (eval o X.env) = eval o X.env := by rfl) (h3 : (apos.endLine == pos.line) = true := by rfl) :
    PE X ((o.Attribute ("join" : Str) apos).Call [e] [] pos) (tM1 (fun x xs H Q => ∃ (a : Str) (p : Addr) (ys : List Str), x = V.str a ∧ xs = [V.ref p] ∧ (SqL K H p (ys.map V.str) ∨ SqT K H p (ys.map V.str)) ∧ (ys.map fun x => x.length).sum + ys.length * a.length ≤ 16777216 ∧ Q (V.str (PySem.Txt.join a ys)) H) to te) := by
  subst hK
  exact pe_join ho he h1 h2 h3
abbrev sBnd : Str := "bounds"
theorem wd_bnd : Wd sBnd := wd_of (by decide +kernel)
def enLine (e : Nat × List (Option Nat)) : Str := jW (nw e.1 :: e.2.map oW)
theorem en_wd {e : Nat × List (Option Nat)} (h : EnOk e) : ∀ x ∈ nw e.1 :: e.2.map oW, Wd x := fun x hx => by
  rcases List.mem_cons.mp hx with rfl | hx
  · exact wd_nw h.1
  · obtain ⟨o, ho, rfl⟩ := List.mem_map.mp hx
    exact wd_oW (h.2.1 o ho)
theorem en_len {e : Nat × List (Option Nat)} {m : Nat} (h : EnOk e) (hm : e.2.length = m) (m10 : m ≤ 10) : (enLine e).length ≤ 451 := by
  have h1 := join_len (" " : Str) (nw e.1 :: e.2.map oW)
  have h2 : ∀ x ∈ ((nw e.1 :: e.2.map oW).map fun x => x.length), x ≤ 40 := fun x hx => by
    obtain ⟨z, hz, rfl⟩ := List.mem_map.mp hx
    exact (en_wd h z hz).1.len
  have h3 := sum_le h2
  rw [List.length_map, List.length_cons, List.length_map] at h3
  rw [List.length_cons, List.length_map, show (" " : Str).length = 1 by decide +kernel] at h1
  have h5 : (enLine e).length = (Str.join (" " : Str) (nw e.1 :: e.2.map oW)).length := by
    show (PySem.Txt.join (" " : Str) (nw e.1 :: e.2.map oW)).length = _
    rw [join_str]
  omega
section
variable {P : Program} {w : World} {K : PySem.W.Frag} {mg : Str → Option Value} {base : Heap}
abbrev swrite_bounds : Stmt := top 48
theorem scwrite_bounds : FnScope ["table", "lines", "state", "costs", "cost"] ["table"] (defScope swrite_bounds) := ⟨rfl, rfl, rfl, by decide +kernel, rfl, by decide +kernel, by decide +kernel⟩
theorem ok_wrb {f f1 f2 : Addr} {fd fd1 fd2 : FuncData} (F : Fun K "write_bounds" "write_bounds" swrite_bounds f fd) (T : Txt K mg base)
    (D_is_bounds : Df P w K mg base CX0 4 "is_bounds" f1 fd1 ["value"] spIsB) (D_number_word : Df P w K mg base CX0 1 "number_word" f2 fd2 ["number"] spNumW) : FnG P w K mg base CX0 5 f fd ["table"] spWrB := by
  refine okG F scwrite_bounds (fun vs H Q E h => ?_) (fun cdv A outer s H vs Q E hc hr h => ?_)
  · obtain ⟨b, v, l, m, rfl, _⟩ := h
    rfl
  obtain ⟨b, v, l, m, rfl, hv, ho, hl, m10, q⟩ := h
  refine ⟨_, (pss_cons (ps_if (pt_not (pt_val (pe_d D_is_bounds hc (hr.mono (by omega)) (by rfl) (fun _ => passN) (pa_cons (pv 0) pa_nil))))
  (pss_one ps_never) pss_nil)
 (pss_cons (ps_setLc (i := 1) (own := [("state", 2), ("costs", 3)]) (g := _) rfl scwrite_bounds.nd rfl rfl (sw_true rfl rfl rfl (by decide +kernel)) (pi_sq (pv 0)) (blkOk_by (N := ["table", "lines", "state", "costs", "cost"]) (sc := defScope swrite_bounds) (by decide +kernel)) (fun _ _ _ _ _ => (pg_tupK (K := K) (n := 2) rfl rfl (pgs_cons (pg_name (i := 2) scwrite_bounds.nd rfl (Or.inl rfl)) (pgs_cons (pg_name (i := 3) scwrite_bounds.nd rfl (Or.inl rfl)) pgs_nil)))) (fun _ _ _ _ _ => pts_nil) (fun _ _ _ _ _ => (pe_joinK (K := K) rfl pe_str (pe_op op_cat (pe_lst (pa_cons (pe_callTy call_str_int (by rfl) T.z_str (by decide +kernel) (pa_cons (pv 2) pa_nil)) pa_nil)) (pe_lc (own := [("cost", 4)]) (g := gName 4) rfl scwrite_bounds.nd (pi_sqK (K := K) rfl (pv 3)) (blkOk_by (N := ["table", "lines", "state", "costs", "cost"]) (sc := (relS _ (defScope swrite_bounds))) (by decide +kernel)) (fun _ _ _ _ _ => pg_name (i := 4) scwrite_bounds.nd rfl (Or.inl rfl)) (fun _ _ _ _ _ => pts_nil) (fun _ _ _ _ _ => (pe_d D_number_word hc (hr.mono (by omega)) (by rfl) (fun _ => passN) (pa_cons (pv 4) pa_nil))))))))
 (pss_one (ps_ret (pe_join pe_str (pe_op op_cat (pe_lst (pa_cons (pe_joined (PJ.cons pe_str (PJ.cons (pe_fmt (pe_callB call_len_seq (by rfl) T.z_len (by decide +kernel) (pa_cons (pv 1) pa_nil))) PJ.nil))) pa_nil)) (pv 1))))))), ?_⟩
  have z16 := sizeLine_eq
  refine ⟨_, rfl, b, v, l, m, rfl, hv, ho, hl, fun H1 s1 => ⟨_, rfl, iteF ?_⟩⟩
  obtain ⟨p, us, rfl, hp, hu⟩ := hv
  have lu := hu.len
  refine ⟨_, rfl, b, p, _, rfl, so_sq (s1 _ _ hp), fun D hD => ?_⟩
  refine lc_it (vs := [2, 3]) walk_sq (fun i H' => Vls H1 D (((l.map enLine).take i).map V.str) H') (Vls.nil hD) (fun i H' _ v => so_sq (v.same _ _ (s1 _ _ hp))) ?_ ?_
  · rintro i v H2 _ hi vl ⟨rfl, hx⟩
    obtain ⟨t, c, n, cs, rfl, e1, e2, e3⟩ := hu.get hx
    have ok := (ho (n, cs) (List.mem_of_getElem? e1)).1
    have lm : cs.length = m := (ho (n, cs) (List.mem_of_getElem? e1)).2
    have el : (l.map enLine)[i]? = some (enLine (n, cs)) := by rw [List.getElem?_map, e1]; rfl
    refine ⟨t, _, rfl, SqT.of (vl.same _ _ (s1 _ _ e2)), rfl, _, _, rfl, _, _, rfl, rfl, rfl, yes_go ?_⟩
    refine ⟨⟨_, rfl⟩, _, rfl, _, rfl, log_ok ok.1, by show 1 ≤ sizeLine; omega, fun p1 hp1 => ?_⟩
    have s3 := vl.same.trans (upd_new hp1 (o := .lst [.str (nw n)]))
    refine ⟨_, rfl, b, c, _, rfl, so_sq (s3 _ _ (s1 _ _ e3)), fun D2 hD2 => ?_⟩
    have lc : cs.length ≤ 90 := ok.2.2
    refine lc_it walk_sq (fun j H' => Vls _ D2 (((cs.map oW).take j).map V.str) H') (Vls.nil hD2) (fun j H' _ v => so_sq (v.same _ _ (s3 _ _ (s1 _ _ e3)))) ?_ ?_
    · rintro j v H5 _ hj vl5 ⟨rfl, hx5⟩
      rw [List.getElem?_map] at hx5
      obtain ⟨o, ho5, rfl⟩ := Option.map_eq_some_iff.mp hx5
      have add := vl5.add (y := V.str (oW o)) (by rw [List.length_map, List.length_take, List.length_map]; omega)
      rw [show ((cs.map oW).take j).map V.str ++ [V.str (oW o)] = ((cs.map oW).take (j + 1)).map V.str by rw [take_succ (by rw [List.getElem?_map, ho5]; rfl : (cs.map oW)[j]? = some (oW o)), List.map_append]; rfl] at add
      exact ⟨rfl, yes_go ⟨_, rfl, o, rfl, ok.2.1 o (List.mem_of_getElem? ho5), add⟩⟩
    intro H5 vl5
    rw [List.length_map, List.take_of_length_le (by rw [List.length_map]; exact Nat.le_refl _)] at vl5
    refine ⟨p1, D2, _, _, rfl, rfl, vl5.same _ _ upd_same, vl5.at_, ?_, fun p3 hp3 => ⟨_, p3, nw n :: cs.map oW, rfl, rfl, .inl (SqL.of upd_same), ?_, ?_⟩⟩
    · rw [List.length_map, List.length_map]
      show 1 + _ ≤ _
      omega
    · have h2 : ∀ x ∈ ((nw n :: cs.map oW).map fun x => x.length), x ≤ 40 := fun x hx => by
        obtain ⟨z, hz, rfl⟩ := List.mem_map.mp hx
        exact (en_wd ok z hz).1.len
      have h3 := sum_le h2
      rw [List.length_map, List.length_cons, List.length_map] at h3
      rw [List.length_cons, List.length_map, show (Str.ofString " ").length = 1 by decide +kernel]
      omega
    · have v2 := vl.ext ((upd_new hp1).trans (vl5.same.trans (upd_new hp3 (o := .lst ((nw n :: cs.map oW).map V.str)))))
      have add := v2.add (y := V.str (enLine (n, cs))) (by rw [List.length_map, List.length_take]; omega)
      rw [take_succ el, List.map_append]
      exact add
  intro H3 vl
  rw [lu, List.take_of_length_le (by rw [List.length_map]; exact Nat.le_refl _)] at vl
  have hn : l.length < 1000000000000000000000000000000 := by omega
  have ln := (nw_tx hn).len
  have e0 : ∀ z : Str, Str.empty ++ z = z := fun z => str_ext (by rw [app_list]; rfl)
  have l7 : ("bounds " : Str).length = 7 := by decide +kernel
  refine ⟨⟨_, rfl⟩, ?_⟩
  refine ⟨_, rfl, ?_, _, rfl, D, _, rfl, .inl (SqL.of vl.at_), .inr ⟨_, rfl, ?_, _, rfl, ?_, ?_⟩⟩
  · rw [e0]; omega
  · rw [List.length_map, List.length_map]; exact log_ok hn
  · rw [List.length_map, List.length_map, e0, app_len, show (Str.ofString (toString ((l.length : Nat) : Int))).length = (nw l.length).length from rfl]; omega
  have eh : Str.empty ++ Str.ofString "bounds " ++ Str.ofString (toString (((l.map enLine).map V.str).length : Int)) = jW [sBnd, nw l.length] := by
    rw [List.length_map, List.length_map, e0, join_two]
    rfl
  show tJs [] (Str.empty ++ Str.ofString "bounds " ++ Str.ofString (toString (((l.map enLine).map V.str).length : Int))) _ _ _
  rw [eh]
  refine ⟨by show 1 ≤ sizeLine; decide, fun p1 h1 => ⟨_, rfl, p1, D, _, _, rfl, rfl, upd_same, upd_new h1 _ _ vl.at_, ?_, fun p2 h2 => ⟨_, p2, jW [sBnd, nw l.length] :: l.map enLine, rfl, rfl, .inl (SqL.of upd_same), ?_, ?_⟩⟩⟩
  · rw [List.length_map, List.length_map]
    show 1 + l.length ≤ sizeLine
    omega
  · have h5 : ∀ x ∈ ((jW [sBnd, nw l.length] :: l.map enLine).map fun x => x.length), x ≤ 451 := fun x hx => by
      obtain ⟨z, hz, rfl⟩ := List.mem_map.mp hx
      rcases List.mem_cons.mp hz with rfl | hz
      · rw [join_two, app_len, app_len, show sBnd.length = 6 by decide +kernel, show (" " : Str).length = 1 by decide +kernel]
        omega
      · obtain ⟨e, he, rfl⟩ := List.mem_map.mp hz
        exact en_len (ho e he).1 (ho e he).2 m10
    have h6 := sum_le h5
    rw [List.length_map, List.length_cons, List.length_map] at h6
    rw [List.length_cons, List.length_map, show (Str.ofString "\n").length = 1 by decide +kernel]
    omega
  · exact q _ (s1.trans (vl.same.trans ((upd_new h1).trans (upd_new h2))))
end
end KW

namespace KW
open PySem L2 Gd Zn KM KP
section
variable {P : Program} {w : World} {K : PySem.W.Frag} {mg : Str → Option Value} {base : Heap}
abbrev s_law_script_text : Stmt := top 64
theorem sc_law_script_text : FnScope ["_law_pairs", "_law_lines", "_law_first", "_law_second"] ["_law_pairs"] (defScope s_law_script_text) := ⟨rfl, rfl, rfl, by decide +kernel, rfl, by decide +kernel, by decide +kernel⟩
theorem ok_stext {f f1 : Addr} {fd fd1 : FuncData} (F : Fun K "_law_script_text" "_law_script_text" s_law_script_text f fd) (T : Txt K mg base)
    (D__law_spot : Df P w K mg base CX0 1 "_law_spot" f1 fd1 ["_law_sign"] spSymW) : FnG P w K mg base CX0 2 f fd ["_law_pairs"] (fun vs H Q E => ∃ (p : Addr) (us : List V) (l : List (Str × Str)), vs = [.ref p] ∧ H p = some (.lst us) ∧ PrAt H us l ∧ (∀ q ∈ l, PrOk q.1 q.2) ∧ l.length ≤ 3500 ∧ ∀ H', Same H H' → Q (.str (scText l)) H') := by
  refine okG F sc_law_script_text (fun vs H Q E h => ?_) (fun cdv A outer s H vs Q E hc hr h => ?_)
  · obtain ⟨p, us, l, rfl, _⟩ := h
    rfl
  obtain ⟨p, us, l, rfl, hp, hu, ho, hl, q⟩ := h
  refine ⟨_, (pss_cons (ps_set (i := 1) sc_law_script_text.nd rfl (Or.inl rfl) (pe_lst (pa_cons (pe_op op_add_str pe_str (pe_callTy call_str_int (by rfl) T.z_str (by decide +kernel) (pa_cons (pe_callB call_len_seq (by rfl) T.z_len (by decide +kernel) (pa_cons (pv 0) pa_nil)) pa_nil))) pa_nil)))
 (pss_one (ps_ret (pe_join pe_str (pe_op op_cat (pv 1) (pe_lc (own := [("_law_first", 2), ("_law_second", 3)]) (g := _) rfl sc_law_script_text.nd (pi_list (pv 0)) (blkOk_by (N := ["_law_pairs", "_law_lines", "_law_first", "_law_second"]) (sc := defScope s_law_script_text) (by decide +kernel)) (fun _ _ _ _ _ => (pg_tupK (K := K) (n := 2) rfl rfl (pgs_cons (pg_name (i := 2) sc_law_script_text.nd rfl (Or.inl rfl)) (pgs_cons (pg_name (i := 3) sc_law_script_text.nd rfl (Or.inl rfl)) pgs_nil)))) (fun _ _ _ _ _ => pts_nil) (fun _ _ _ _ _ => (pe_op op_add_str (pe_op op_add_str (pe_d D__law_spot hc (hr.mono (by omega)) (by rfl) (fun _ => passN) (pa_cons (pv 2) pa_nil)) pe_str) (pe_d D__law_spot hc (hr.mono (by omega)) (by rfl) (fun _ => passN) (pa_cons (pv 3) pa_nil)))))))))), ?_⟩
  have lu := hu.len
  have z16 := sizeLine_eq
  have hn : l.length < 1000000000000000000000000000000 := by omega
  have ln := (nw_tx hn).len
  have l7 : ("script " : Str).length = 7 := by decide +kernel
  have eh : Str.ofString "script " ++ Str.ofString (toString ((us.length : Nat) : Int)) = jW [sScr, nw l.length] := by
    rw [lu, join_two]
    rfl
  refine ⟨_, rfl, p, _, rfl, .inl (SqL.of hp), _, rfl, ?_⟩
  refine ⟨by rw [lu]; exact log_ok hn, _, _, rfl, rfl, by rw [show (Str.ofString (toString ((us.length : Nat) : Int))).length = (nw l.length).length by rw [lu]; rfl]; omega, ?_⟩
  rw [eh]
  refine ⟨by show 1 ≤ sizeLine; omega, fun L hL => ⟨⟨_, rfl⟩, _, rfl, ?_⟩⟩
  have s1 : Same H (upd H L (.lst [.str (jW [sScr, nw l.length])])) := upd_new hL
  refine ⟨_, rfl, p, rfl, ⟨_, SqL.of (s1 _ _ hp)⟩, fun D hD => ?_⟩
  refine lc_list (xs := us) (fun i H' => Vls (upd H L (.lst [.str (jW [sScr, nw l.length])])) D (((l.map scLine).take i).map V.str) H') (Vls.nil hD) (fun i H' _ v => SqL.of (v.same _ _ (s1 _ _ hp))) ?_ ?_
  · rintro i v H3 hx vl3
    obtain ⟨a, x, y, rfl, e1, e2⟩ := hu.get hx
    have ok : PrOk x y := ho (x, y) (List.mem_of_getElem? e1)
    have tx := (wd_swd ok.1).1.len
    have ty := (wd_swd ok.2.1).1.len
    have l1 : (" " : Str).length = 1 := by decide +kernel
    have el : (l.map scLine)[i]? = some (scLine (x, y)) := by rw [List.getElem?_map, e1]; rfl
    have hi : i < us.length := (List.getElem?_eq_some_iff.mp hx).1
    refine ⟨a, _, rfl, SqT.of (vl3.same _ _ (s1 _ _ e2)), rfl, _, _, rfl, _, _, rfl, rfl, rfl, yes_go ?_⟩
    refine ⟨_, rfl, x, rfl, _, _, rfl, rfl, by omega, _, rfl, y, rfl, _, _, rfl, rfl, by rw [app_len]; omega, ?_⟩
    have add := vl3.add (y := V.str (scLine (x, y))) (by rw [List.length_map, List.length_take]; omega)
    rw [take_succ el, List.map_append]
    rw [show scLine (x, y) = swd x ++ " " ++ swd y from join_two _ _] at add ⊢
    exact add
  intro H3 vl
  rw [lu, List.take_of_length_le (by rw [List.length_map]; exact Nat.le_refl _)] at vl
  refine ⟨L, D, _, _, rfl, rfl, vl.same _ _ upd_same, vl.at_, ?_, fun p2 h2 => ⟨_, p2, jW [sScr, nw l.length] :: l.map scLine, rfl, rfl, .inl (SqL.of upd_same), sc_sum ho hl, ?_⟩⟩
  · rw [List.length_map, List.length_map]
    show 1 + l.length ≤ sizeLine
    omega
  · exact q _ (s1.trans (vl.same.trans (upd_new h2)))
end
end KW

namespace KW
open PySem L2 Gd Zn KM KP
def boText (l : List (Nat × List (Option Nat))) : Str := jL (jW [sBnd, nw l.length] :: l.map enLine)
theorem bo_sum {l : List (Nat × List (Option Nat))} {m : Nat} (ho : ∀ e ∈ l, EnOk e ∧ e.2.length = m) (hl : l.length ≤ 7000) (m10 : m ≤ 10) : ((jW [sBnd, nw l.length] :: l.map enLine).map fun x => x.length).sum + (jW [sBnd, nw l.length] :: l.map enLine).length * (Str.ofString "\n").length ≤ 16777216 := by
  have ln := (nw_tx (i := l.length) (by omega)).len
  have h5 : ∀ x ∈ ((jW [sBnd, nw l.length] :: l.map enLine).map fun x => x.length), x ≤ 451 := fun x hx => by
    obtain ⟨z, hz, rfl⟩ := List.mem_map.mp hx
    rcases List.mem_cons.mp hz with rfl | hz
    · rw [join_two, app_len, app_len, show sBnd.length = 6 by decide +kernel, show (" " : Str).length = 1 by decide +kernel]
      omega
    · obtain ⟨e, he, rfl⟩ := List.mem_map.mp hz
      exact en_len (ho e he).1 (ho e he).2 m10
  have h6 := sum_le h5
  rw [List.length_map, List.length_cons, List.length_map] at h6
  rw [List.length_cons, List.length_map, show (Str.ofString "\n").length = 1 by decide +kernel]
  omega
def spBText : Sp := fun vs H Q _ => ∃ (p : Addr) (us : List V) (l : List (Nat × List (Option Nat))) (m : Nat), vs = [.ref p] ∧ H p = some (.lst us) ∧ EnAt H true us l ∧ (∀ e ∈ l, EnOk e ∧ e.2.length = m) ∧ l.length ≤ 7000 ∧ m ≤ 10 ∧ ∀ H', Same H H' → Q (.str (boText l)) H'
section
variable {P : Program} {w : World} {K : PySem.W.Frag} {mg : Str → Option Value} {base : Heap}
abbrev s_law_bounds_text : Stmt := top 65
theorem sc_law_bounds_text : FnScope ["_law_table", "_law_lines", "_law_state", "_law_costs", "_law_cost"] ["_law_table"] (defScope s_law_bounds_text) := ⟨rfl, rfl, rfl, by decide +kernel, rfl, by decide +kernel, by decide +kernel⟩
theorem ok_btext {f : Addr} {fd : FuncData} (F : Fun K "_law_bounds_text" "_law_bounds_text" s_law_bounds_text f fd) (T : Txt K mg base) : FnG P w K mg base CX0 1 f fd ["_law_table"] spBText := by
  refine okG F sc_law_bounds_text (fun vs H Q E h => ?_) (fun cdv A outer s H vs Q E hc hr h => ?_)
  · obtain ⟨p, us, l, m, rfl, _⟩ := h
    rfl
  obtain ⟨p, us, l, m, rfl, hp, hu, ho, hl, m10, q⟩ := h
  refine ⟨_, (pss_cons (ps_set (i := 1) sc_law_bounds_text.nd rfl (Or.inl rfl) (pe_lst (pa_cons (pe_op op_add_str pe_str (pe_callTy call_str_int (by rfl) T.z_str (by decide +kernel) (pa_cons (pe_callB call_len_seq (by rfl) T.z_len (by decide +kernel) (pa_cons (pv 0) pa_nil)) pa_nil))) pa_nil)))
 (pss_cons (ps_for (passes_of rfl) rfl (pi_list (pv 0)) (pg_tup (by rfl) (pgs_cons (pg_name (i := 2) sc_law_bounds_text.nd rfl (Or.inl rfl)) (pgs_cons (pg_name (i := 3) sc_law_bounds_text.nd rfl (Or.inl rfl)) pgs_nil)))
  (pss_one (ps_expr (pe_bm PySem.F.plainAttrs_list PySem.F.slot_list_append PySem.F.type_list_append mt_append (pv 1) (pa_cons (pe_joinK (K := K) rfl pe_str (pe_op op_cat (pe_lst (pa_cons (pe_callTy call_str_int (by rfl) T.z_str (by decide +kernel) (pa_cons (pv 2) pa_nil)) pa_nil)) (pe_lc (own := [("_law_cost", 4)]) (g := gName 4) rfl sc_law_bounds_text.nd (pi_list (pv 3)) (blkOk_by (N := ["_law_table", "_law_lines", "_law_state", "_law_costs", "_law_cost"]) (sc := defScope s_law_bounds_text) (by decide +kernel)) (fun _ _ _ _ _ => pg_name (i := 4) sc_law_bounds_text.nd rfl (Or.inl rfl)) (fun _ _ _ _ _ => pts_nil) (fun _ _ _ _ _ => (pe_ifExp (pt_cmpR op_isN (pv 4) pe_non (nomark _)) pe_str (pe_callTy call_str_int (by rfl) T.z_str (by decide +kernel) (pa_cons (pv 4) pa_nil))))))) pa_nil)))))
 (pss_one (ps_ret (pe_join pe_str (pv 1)))))), ?_⟩
  have lu := hu.len
  have z16 := sizeLine_eq
  have hn : l.length < 1000000000000000000000000000000 := by omega
  have ln := (nw_tx hn).len
  have l7 : ("bounds " : Str).length = 7 := by decide +kernel
  have eh : Str.ofString "bounds " ++ Str.ofString (toString ((us.length : Nat) : Int)) = jW [sBnd, nw l.length] := by
    rw [lu, join_two]
    rfl
  refine ⟨_, rfl, p, _, rfl, .inl (SqL.of hp), _, rfl, by rw [lu]; exact log_ok hn, _, _, rfl, rfl, by rw [show (Str.ofString (toString ((us.length : Nat) : Int))).length = (nw l.length).length by rw [lu]; rfl]; omega, ?_⟩
  rw [eh]
  refine ⟨by show 1 ≤ sizeLine; omega, fun L hL => ?_⟩
  have s1 : Same H (upd H L (.lst [.str (jW [sBnd, nw l.length])])) := upd_new hL
  have v0 : Vls H L [V.str (jW [sBnd, nw l.length])] (upd H L (.lst [.str (jW [sBnd, nw l.length])])) := vls_to (Same.refl H) hL
  refine ⟨_, rfl, p, rfl, ⟨_, SqL.of (v0.same _ _ hp)⟩, ?_⟩
  refine for_it (walk_list (xs := us)) (fun i σ H' => ∃ o2 o3, σ = [some (.ref p), some (.ref L), o2, o3, none] ∧ Vls H L (V.str (jW [sBnd, nw l.length]) :: ((l.map enLine).take i).map V.str) H') ⟨none, none, rfl, v0⟩ (fun i σ H' _ ⟨_, _, _, v⟩ => SqL.of (v.same _ _ hp)) ?_ ?_
  · rintro i v _ H2 _ hi ⟨o2, o3, rfl, vl⟩ ⟨rfl, hx⟩
    obtain ⟨t, c, n, cs, rfl, e1, e2, e3⟩ := hu.get hx
    have ok := (ho (n, cs) (List.mem_of_getElem? e1)).1
    have lc : cs.length ≤ 90 := ok.2.2
    have el : (l.map enLine)[i]? = some (enLine (n, cs)) := by rw [List.getElem?_map, e1]; rfl
    refine ⟨t, _, rfl, SqT.of (vl.same _ _ e2), rfl, _, _, rfl, _, _, rfl, rfl, ?_⟩
    refine ⟨_, rfl, .inl ⟨rfl, _, SqL.of vl.at_⟩, ⟨_, rfl⟩, _, rfl, _, rfl, log_ok ok.1, by show 1 ≤ sizeLine; omega, fun p1 hp1 => ?_⟩
    have s3 := vl.same.trans (upd_new hp1 (o := .lst [.str (nw n)]))
    refine ⟨_, rfl, c, rfl, ⟨_, SqL.of (s3 _ _ e3)⟩, fun D2 hD2 => ?_⟩
    refine lc_list (xs := cs.map oV) (fun j H' => Vls _ D2 (((cs.map oW).take j).map V.str) H') (Vls.nil hD2) (fun j H' _ v => SqL.of (v.same _ _ (s3 _ _ e3))) ?_ ?_
    · rintro j v H5 hx5 vl5
      rw [List.getElem?_map] at hx5
      obtain ⟨o, ho5, rfl⟩ := Option.map_eq_some_iff.mp hx5
      have oo := ok.2.1 o (List.mem_of_getElem? ho5)
      have add := vl5.add (y := V.str (oW o)) (by rw [List.length_map, List.length_take, List.length_map]; omega)
      rw [show ((cs.map oW).take j).map V.str ++ [V.str (oW o)] = ((cs.map oW).take (j + 1)).map V.str by rw [take_succ (by rw [List.getElem?_map, ho5]; rfl : (cs.map oW)[j]? = some (oW o)), List.map_append]; rfl] at add
      refine ⟨wipe1 _ _ _, yes_go ⟨_, rfl, rfl, _, rfl, ?_⟩⟩
      cases o with
      | none => exact iteT add
      | some k => exact iteF ⟨_, rfl, _, rfl, log_ok oo, add⟩
    intro H5 vl5
    rw [List.length_map, List.take_of_length_le (by rw [List.length_map]; exact Nat.le_refl _)] at vl5
    refine ⟨p1, D2, _, _, rfl, rfl, vl5.same _ _ upd_same, vl5.at_, ?_, fun p3 hp3 => ⟨_, p3, nw n :: cs.map oW, rfl, rfl, .inl (SqL.of upd_same), ?_, ?_⟩⟩
    · rw [List.length_map, List.length_map]
      show 1 + _ ≤ _
      omega
    · have h2 : ∀ x ∈ ((nw n :: cs.map oW).map fun x => x.length), x ≤ 40 := fun x hx => by
        obtain ⟨z, hz, rfl⟩ := List.mem_map.mp hx
        exact (en_wd ok z hz).1.len
      have h3 := sum_le h2
      rw [List.length_map, List.length_cons, List.length_map] at h3
      rw [List.length_cons, List.length_map, show (Str.ofString " ").length = 1 by decide +kernel]
      omega
    · have v2 := vl.ext ((upd_new hp1).trans (vl5.same.trans (upd_new hp3 (o := .lst ((nw n :: cs.map oW).map V.str)))))
      refine ⟨L, _, _, rfl, rfl, v2.at_, ?_, some (.int (n : Nat)), some (.ref c), rfl, ?_⟩
      · rw [List.length_cons, List.length_map, List.length_take]; omega
      · rw [take_succ el, List.map_append]
        exact v2.put
  · rintro _ H2 ⟨o2, o3, rfl, vl⟩
    rw [lu, List.take_of_length_le (by rw [List.length_map]; exact Nat.le_refl _)] at vl
    refine ⟨⟨_, rfl⟩, _, rfl, _, L, jW [sBnd, nw l.length] :: l.map enLine, rfl, rfl, .inl (SqL.of vl.at_), bo_sum ho hl m10, q _ vl.same⟩
end
end KW

namespace KW
open PySem L2 Gd Zn KM KP
/-- tuples stand on -/
abbrev Tups (H H' : Hp) : Prop := ∀ c xs, H c = some (.tup xs) → H' c = some (.tup xs)
section
variable {H H' : Hp}
mutual
theorem ptA_tups (e : Tups H H') : ∀ {v : V} {p : Pt}, PtAt H false v p → PtAt H' false v p
  | _, _, .ch => .ch
  | _, _, .rep h g t => .rep (e _ _ h) (e _ _ g) (ptsA_tups e t)
theorem ptsA_tups (e : Tups H H') : ∀ {vs : List V} {l : List Pt}, PtsAt H false vs l → PtsAt H' false vs l
  | _, _, .nil => .nil
  | _, _, .cons h r => .cons (ptA_tups e h) (ptsA_tups e r)
end
end
theorem tups_same {H H' : Hp} (s : Same H H') : Tups H H' := fun c xs h => s _ _ h
theorem tups_put {H : Hp} {D : Addr} {xs ys : List V} (h : H D = some (.lst xs)) : Tups H (upd H D (.lst ys)) := fun c zs e => by
  have : c ≠ D := fun z => by rw [z, h] at e; exact nomatch e
  rw [upd_ne this]
  exact e
def spTurn (m : Nat) : Sp := fun vs H Q _ => ∃ (v : V) (l : List Pt), vs = [v] ∧ LiAt H true v l ∧ Good 5000 m l ∧ ∀ v' H', Same H H' → LiAt H' false v' l → Q v' H'
section
variable {P : Program} {w : World} {K : PySem.W.Frag} {mg : Str → Option Value} {base : Heap}
abbrev s_law_tupled : Stmt := top 62
theorem sc_law_tupled : FnScope ["_law_pattern_here", "_law_item"] ["_law_pattern_here"] (defScope s_law_tupled) := ⟨rfl, rfl, rfl, by decide +kernel, rfl, by decide +kernel, by decide +kernel⟩
theorem ok_tupled {f f1 : Addr} {fd fd1 : FuncData} {m : Nat} {sp0 : Sp} (F : Fun K "_law_tupled" "_law_tupled" s_law_tupled f fd) (T : Txt K mg base)
    (D__law_tupled : Df P w K mg base CX0 (1 + m) "_law_tupled" f1 fd1 ["_law_pattern_here"] sp0) (h0 : ∀ k, m = k + 1 → sp0 = spTurn k) : FnG P w K mg base CX0 (1 + m + 1) f fd ["_law_pattern_here"] (spTurn m) := by
  refine okG F sc_law_tupled (fun vs H Q E h => ?_) (fun cdv A outer s H vs Q E hc hr h => ?_)
  · obtain ⟨v, l, rfl, _⟩ := h
    rfl
  obtain ⟨v, l, rfl, ⟨q0, vs0, rfl, hq, hts⟩, g, q⟩ := h
  have hq : H q0 = some (.lst vs0) := hq
  refine ⟨_, (pss_one (ps_ret (pe_callTy call_tuple_of (by rfl) T.z_tuple (by decide +kernel) (pa_cons (pe_lc (own := [("_law_item", 1)]) (g := gName 1) rfl sc_law_tupled.nd (pi_list (pv 0)) (blkOk_by (N := ["_law_pattern_here", "_law_item"]) (sc := defScope s_law_tupled) (by decide +kernel)) (fun _ _ _ _ _ => pg_name (i := 1) sc_law_tupled.nd rfl (Or.inl rfl)) (fun _ _ _ _ _ => pts_nil) (fun _ _ _ _ _ => (pe_ifExp (pt_val (pe_callB call_isk (by rfl) T.z_isinstance (by decide +kernel) (pa_cons (pv 1) (pa_cons (pe_bltn (v := .ty "tuple") (by rfl) T.z_tuple (by decide +kernel) rfl) pa_nil)))) (pe_tup (pa_cons pe_str (pa_cons (pe_d D__law_tupled hc (hr.mono (by omega)) (by rfl) (fun _ => passN) (pa_cons (pe_ix (ix_tupK (K := K) rfl) (pv 1) pe_int (fun _ _ => rfl)) pa_nil)) pa_nil))) (pv 1)))) pa_nil)))), ?_⟩
  have ln := hts.length
  have z16 := sizeLine_eq
  have gl := g.len
  refine ⟨_, rfl, q0, rfl, ⟨_, SqL.of hq⟩, fun D hD => ?_⟩
  refine lc_it walk_list (fun i H' => ∃ us, Vls H D us H' ∧ PtsAt H' false us (l.take i)) ⟨[], Vls.nil hD, .nil⟩ (fun i H' _ ⟨_, L, _⟩ => SqL.of (L.same _ _ hq)) ?_ ?_
  · rintro i x H2 _ hi ⟨us, L, pt⟩ ⟨rfl, hx⟩
    obtain ⟨p, hp, hpt⟩ := hts.at hx
    have s2 := L.same
    have lu := pt.length
    have lt : us.length < sizeLine := by
      rw [lu, List.length_take]
      omega
    rw [take_succ hp]
    cases hpt with
    | @ch c =>
      refine ⟨rfl, yes_go ⟨_, rfl, .str ⟨#[c]⟩, _, rfl, .inr (.inr (.inr (.inr (.inl rfl)))), (fun z => nomatch z), _, rfl, ?_⟩⟩
      obtain ⟨acc, a1, a2, a3⟩ := L.add (y := V.str ⟨#[c]⟩) lt
      exact iteF ⟨_, rfl, acc, a1, a2, _, a3, (ptsA_tups (tups_put a1) pt).snoc .ch⟩
    | @rep a q1 vs1 k h1 h2 h3 =>
      obtain ⟨gk, hm⟩ := g.part hp
      obtain ⟨m', rfl⟩ : ∃ m', m = m' + 1 := ⟨m - 1, by omega⟩
      have es := h0 m' rfl
      subst es
      have ha := s2 _ _ h1
      have ek : ∀ {G : Hp}, G a = some (.tup [.str sRep, .ref q1]) → kind G (.ref a) = .tup := fun {G} h => by
        show kindO (G a) = .tup
        rw [h]
        rfl
      refine ⟨rfl, yes_go ⟨_, rfl, .ref a, _, rfl, .inr (.inr (.inr (.inr (.inl rfl)))), kind_tup ha, _, rfl, ?_⟩⟩
      rw [ek ha]
      refine iteT ⟨_, rfl, a, _, _, _, rfl, rfl, SqT.of ha, atI_nat (j := 1) rfl, ?_⟩
      refine ⟨.ref q1, k, rfl, ⟨q1, vs1, rfl, s2 _ _ h2, h3.same s2⟩, gk, fun v' H4 s4 L4 => ⟨by show 2 ≤ sizeLine; omega, fun t ht => ?_⟩⟩
      have s5 : Same H4 (upd H4 t (.tup [.str sRep, v'])) := upd_new ht
      obtain ⟨acc, a1, a2, a3⟩ := (L.ext (s4.trans s5)).add (y := V.ref t) lt
      obtain ⟨q2, vs2, rfl, b1, b2⟩ := L4.same s5
      have tp := tups_put (ys := acc ++ [.ref t]) a1
      exact ⟨acc, a1, a2, _, a3, (ptsA_tups (fun c xs e => tp _ _ ((s4.trans s5) _ _ e)) pt).snoc (.rep (tp _ _ upd_same) (tp _ _ b1) (ptsA_tups tp b2))⟩
  · rintro H2 ⟨us, L, pt⟩
    rw [ln, List.take_length] at pt
    refine ⟨D, us, rfl, .inl ⟨SqL.of L.at_, fun t ht => q _ _ (L.same.trans (upd_new ht)) ⟨t, us, rfl, upd_same, pt.same (upd_new ht)⟩⟩⟩
theorem all_tupled {f : Addr} {fd : FuncData} (F : Fun K "_law_tupled" "_law_tupled" s_law_tupled f fd) (T : Txt K mg base)
    (m0 : mg "_law_tupled" = some (.ref f)) (k0 : PySem.W.keepIn K (.ref f) = true) (b0 : Binds K fd ["_law_pattern_here"] []) : ∀ m, FnG P w K mg base CX0 (1 + m + 1) f fd ["_law_pattern_here"] (spTurn m)
  | 0 => ok_tupled (m := 0) F T ⟨no_fn (sp := fun _ _ _ _ => False) (fun _ _ _ _ z => z), m0, k0, b0⟩ (fun k z => absurd z (by omega))
  | m + 1 => ok_tupled (m := m + 1) F T ⟨all_tupled F T m0 k0 b0 m, m0, k0, b0⟩ (fun k z => by
    obtain rfl : m = k := by omega
    rfl)
end
end KW

namespace KW
open PySem L2 Gd Zn KM KP
/-- all but the pool stands, the pool has turned at most m times -/
structure Mv (H H' : Hp) (p : Addr) (m : Nat) : Prop where
  box : BoxC H' p m
  same : ∀ q o, q ≠ p → H q = some o → H' q = some o
theorem TurnC.mv {H H' : Hp} {p : Addr} {m : Nat} (t : TurnC H H' p m) : Mv H H' p m := ⟨t.1, fun q o hq h => (t.2 q hq).trans h⟩
theorem BoxC.up {H : Hp} {p : Addr} {m n : Nat} (h : m ≤ n) : BoxC H p m → BoxC H p n
  | ⟨a, b, c, e, x, y, z, u⟩ => ⟨a, b, c, e, x, y, z, by omega⟩
theorem Mv.trans {H H1 H2 : Hp} {p : Addr} {m n : Nat} (a : Mv H H1 p m) (b : Mv H1 H2 p n) : Mv H H2 p n := ⟨b.box, fun q o hq h => b.same q o hq (a.same q o hq h)⟩
theorem Mv.refl {H : Hp} {p : Addr} {m : Nat} (b : BoxC H p m) : Mv H H p m := ⟨b, fun _ _ _ h => h⟩
theorem Mv.new {H H' : Hp} {p q : Addr} {m : Nat} {o : HO} (a : Mv H H' p m) (h : H' q = none) : Mv H (upd H' q o) p m := by
  obtain ⟨x, y, z, e, r⟩ := a.box
  exact ⟨⟨x, y, z, by rw [upd_ne (ne_of_none e h)]; exact e, r⟩, fun b u hb hu => by rw [upd_ne (ne_of_none (a.same _ _ hb hu) h)]; exact a.same _ _ hb hu⟩
def spScript : Sp := fun vs H Q _ => ∃ (p : Addr) (m : Nat), vs = [.ref p] ∧ BoxC H p m ∧ m < 99000 ∧ ∀ D H' us l, Mv H H' p (m + 20) → H D = none → H' D = some (.lst us) → PrAt H' us l → (∀ q ∈ l, PrOk q.1 q.2) → l.length ≤ 8 → Q (.ref D) H'
end KW

namespace Gd
open PySem PySem.Spec PyProof.Rows L2
/-! ### {elt for .. in ..} whose items are ints; its length -/
section
variable {X : Cx}
theorem addI_ok {pn : List (Addr × Obj)} {σ : L2.St} {H : Hp} {s : Shared} {E : Value → Shared → Prop} {D : Addr} {S : Int → Bool} {n : Nat} {y : Int} {tk : Tok} {Q : Value → Shared → Prop} (I : Inv X pn σ H s)
    (hD : H D = some (SetO X.w D S n)) (room : n + 1 < scanBound)
    (h : ∀ s', Inv X pn σ (upd H D (SetO X.w D (fun j => S j || decide (j = y)) (if S y = true then n else n + 1))) s' → Q .none s') : wpAny (model X.prog X.w) X.A (call (.builtin "set.add") [.ref D, .int y tk]) Q E s := by
  have R := setO_get I hD
  refine setR_add R room fun h1 sb nw => ?_
  have ex : ∃ u, h1.get? D = some u := by
    obtain ⟨o, _, _, _, ho, _⟩ := nw
    exact ⟨o, ho⟩
  refine h _ (I.write (e := D) (t' := s.toks + 1) (by rw [hD]; trivial) (.inl rfl) (fun b u hb hu => ?_) ex (setO_new nw))
  exact (sb.2 b hb).trans hu
/-- what the walk asks: D the new set -/
def tScI (w : World) (wi : TI) (g : TG) (tt : TT) (te : TE) (vs : List Nat) : TE := fun σ H Q => wi σ H fun J H1 => ∀ D, H1 D = none →
  ∃ W : Nat → Nat → Hp → Prop, (∃ m, W 0 m (upd H1 D (SetO w D (fun _ => false) 0))) ∧ ∀ i m H, W i m H →
  (J.stop i H ∧ Q (.ref D) H) ∨ (J.go i H ∧ ∃ Nx : Hp → Prop, (∀ H', Nx H' → ∃ m', m' < m ∧ W (i + 1) m' H') ∧ ∀ x H', J.yld i H x H' →
    g x (wipe σ vs) H' fun σ2 H2 => wipe σ2 vs = wipe σ vs ∧ tt σ2 H2 fun b H3 => if b = true then te σ2 H3 fun y H4 =>
      ∃ (c : Int) (S : Int → Bool) (n : Nat), y = .int c ∧ H4 D = some (SetO w D S n) ∧ n + 1 < scanBound ∧ Nx (upd H4 D (SetO w D (fun j => S j || decide (j = c)) (if S c = true then n else n + 1))) else Nx H3)
theorem pe_scI {elt tg iter : Expr} {ifs : List Expr} {scope : Scope} {own : List (PySem.Str × Nat)} {pos : Pos} {wi : TI} {g : TG} {tt : TT} {te : TE} (calm : X.calm = true) (nd : X.N.Nodup) (hi : PI X tg iter wi) (ok : BlkOk X.N X.env.scope scope own)
    (hg : ∀ (s : Shared) (H : Hp) (C : Addr) (cl : List (PySem.Str × Addr)) (fp : List Addr), PG (X.blk s H scope (compEnvC scope cl C X.env) fp) tg g)
    (ht : ∀ (s : Shared) (H : Hp) (C : Addr) (cl : List (PySem.Str × Addr)) (fp : List Addr), PTs (X.blk s H scope (compEnvC scope cl C X.env) fp) ifs tt)
    (he : ∀ (s : Shared) (H : Hp) (C : Addr) (cl : List (PySem.Str × Addr)) (fp : List Addr), PE (X.blk s H scope (compEnvC scope cl C X.env) fp) elt te)
    (plain : ∀ x, foldedSetIterable iter X.env x = pure x := by intro _; rfl) :
    PE X (.SetComp elt [⟨tg, iter, ifs, 0⟩] scope pos) (tScI X.w wi g tt te (own.map (·.2))) := by
  refine ⟨fun pn s σ H Q I h => ?_⟩
  rw [PpSet.eval_SetComp]
  have cells : ∀ y ∈ scope.names, y.2 = .free → ∃ c, X.env.cells.lookup y.1 = some c := fun y hy e =>
    (ok.free y hy e).elim (fun k => I.ok.has _ (.inl k)) (fun k => I.ok.has _ (.inr k))
  refine wpAny_comprehension_free (use := none) rfl plain (closure_ok cells) ok.kind (fun y hy e => (ok.uniq y hy).trans (by rw [e])) ?_
  refine thn (hi.run pn s σ H _ I h) fun xv s1 hx => thn hx fun itv s2 h2 => ?_
  obtain ⟨it, fp, tn, J, H2, rfl, I2, T, st2, f2, q⟩ := h2
  refine PpSet.newSet_ok (newEnv_comp ?_)
  obtain ⟨D, hD⟩ : ∃ D, s2.heap.objs.size = D := ⟨_, rfl⟩
  rw [hD]
  have hDn : H2 D = none := I2.hok.fresh (Nat.le_of_eq hD)
  obtain ⟨W, ⟨m0, w0⟩, turn⟩ := q D hDn
  obtain ⟨s3, hs3⟩ : ∃ s3 : Shared, ({ s2 with heap := s2.heap.push { cls := .type "set", dict := none, data := .set #[] 0 (.fresh 0 0 (!X.w.params.followText "set-order")) } } : Shared) = s3 := ⟨_, rfl⟩
  have h3 : s3.heap = s2.heap.push { cls := .type "set", dict := none, data := .set #[] 0 (.fresh 0 0 (!X.w.params.followText "set-order")) } := by rw [← hs3]
  have sz : ∀ b ∈ fp, b < s2.heap.objs.size := fun b hb => (T.obj _ _ st2 b hb).elim fun o z => Heap.lt_size z.1
  have grow : ∀ b o, s2.heap.get? b = some o → s3.heap.get? b = some o := fun b o e => by rw [h3]; exact Heap.get?_push_of_some _ e
  have I3 : Inv X pn σ (upd H2 D (SetO X.w D (fun _ => false) 0)) s3 := by
    rw [← hs3]
    refine I2.laid (t' := s2.toks) (fun b o e => Heap.get?_push_of_some _ e) (Nat.le_of_eq hD) ?_
    have new := setR_fresh (h := s2.heap) X.w
    rw [hD] at new
    exact setO_new new
  have f3 : ∀ b ∈ fp, FpOk X pn (upd H2 D (SetO X.w D (fun _ => false) 0)) b ∧ b < s3.heap.objs.size := fun b hb => by
    have hlt := sz b hb
    have ne : b ≠ D := by rw [← hD]; exact Nat.ne_of_lt hlt
    exact ⟨⟨by rw [upd_ne ne]; exact (f2 b hb).1, (f2 b hb).2⟩, by rw [h3, Heap.size_push]; exact Nat.lt_succ_of_lt hlt⟩
  have st3 : tn 0 s3.heap := T.keep _ _ _ st2 fun b _ o e => grow b o e
  rw [hs3]
  obtain ⟨L, hL⟩ : ∃ L, s3.heap.objs.size = L := ⟨_, rfl⟩
  obtain ⟨cl, hcl⟩ : ∃ cl, cellsFrom (s3.heap.objs.size + 1) scope.names (cloFrom X.env.cells scope.names []) = cl := ⟨_, rfl⟩
  obtain ⟨H3, hH3⟩ : ∃ H3, upd H2 D (SetO X.w D (fun _ => false) 0) = H3 := ⟨_, rfl⟩
  have I4 := block_start I3 ok nd f3
  have pg := hg s3 H3 L cl fp
  have pt := ht s3 H3 L cl fp
  have pe := he s3 H3 L cl fp
  have nfp : ∀ b ∈ fp, H3 b = none := fun b hb => by rw [← hH3]; exact (f3 b hb).1.1
  show codeAny _ _ (.compStart (.SetComp elt [⟨tg, iter, ifs, 0⟩] scope pos) 0 (.ref it) (.ref D) (compEnvC scope (cellsFrom (s3.heap.objs.size + 1) scope.names (cloFrom X.env.cells scope.names [])) s3.heap.objs.size X.env))
    (compPost (model X.prog X.w) X.A X.xe none (EP X pn σ Q) (.ref D) s3.heap.objs.size) { s3 with heap := pushCells (s3.heap.push { cls := .type "dict", data := .dict #[] }) scope.names }
  rw [hcl, hL]
  rw [hcl, hL, hH3] at I4
  rw [hH3] at I3 f3 w0
  obtain ⟨ce, hce⟩ : ∃ ce, compEnvC scope cl L X.env = ce := ⟨_, rfl⟩
  have cL : ce.locals = L := by rw [← hce]; rfl
  rw [hce] at pg pt pe I4 ⊢
  obtain ⟨s4, hs4⟩ : ∃ s4 : Shared, ({ s3 with heap := pushCells (s3.heap.push { cls := .type "dict", data := .dict #[] }) scope.names } : Shared) = s4 := ⟨_, rfl⟩
  rw [hs4] at I4 ⊢
  have st4 : tn 0 s4.heap := T.keep _ _ _ st3 fun b _ o e => by
    rw [← hs4]
    exact pushCells_keeps _ _ _ _ (Heap.get?_push_of_some _ e)
  have stat : ∀ {σ' : L2.St} {H' : Hp} {s' : Shared}, Inv (X.blk s3 H3 scope ce fp) [] σ' H' s' → (∀ b ∈ fp, H' b = none) → ∀ b ∈ fp, FpOk (X.blk s3 H3 scope ce fp) [] H' b := fun I' hn b hb =>
    ⟨hn b hb, (I'.ok.exf b hb).1, I'.ok.exfs b hb, .inl hb, fun x c e => (I'.ok.exf b hb).2 x c e, fun p hp => nomatch (show p ∈ ([] : List (Addr × Obj)) from hp)⟩
  suffices loop : codeAny (model X.prog X.w) X.A (.compLoop (.SetComp elt [⟨tg, iter, ifs, 0⟩] scope pos) 0 (.ref it) (.ref D) ce) (compPost (model X.prog X.w) X.A X.xe none (EP X pn σ Q) (.ref D) L) s4 from
    PpSet.codeAny_compStart_set loop (T.self X.A 0 _ _ _ st4 loop)
  refine PpSet.compLoopS_any (fun n s' => ∃ i H', Inv (X.blk s3 H3 scope ce fp) [] (wipe σ (own.map (·.2))) H' s' ∧ tn i s'.heap ∧ (∀ b ∈ fp, H' b = none) ∧ W i n H') ?_ m0 ⟨0, H3, I4, st4, nfp, w0⟩
  rintro n s5 ⟨i, H5, I5, st5, n5, w5⟩
  rcases turn i n H5 w5 with ⟨stop, qq⟩ | ⟨go, Nx, hNx, step⟩
  · refine thnF (T.done (X.blk s3 H3 scope ce fp) rfl rfl rfl calm i [] s5 _ H5 (fun _ _ => False) I5 (stat I5 n5) st5 stop) ?_
    rintro r s6 ⟨rfl, I6⟩
    have I7 : Inv X pn σ H5 s6 := I3.call' (ch := fp) I6.os I6.base I6.hok I6.bare fun b hb => ⟨(f3 b hb).1.2.2.2.1, (f3 b hb).1.2.1, (f3 b hb).1.2.2.2.2.1, (f3 b hb).1.2.2.2.2.2⟩
    have nC : H5 L = none := cL ▸ (show H5 ce.locals = none from I6.free)
    obtain ⟨m, hn, _⟩ := I6.loc
    have hn : s6.heap.Ns ce.locals m := hn
    rw [cL] at hn
    have fpo := I3.fpOk (Nat.le_of_eq hL) nC
    exact ⟨m, hn, fun h'' sb => ⟨.ref D, H5, I7.turned (t' := s6.toks) (fun b o hb e => (sb.2 b hb).trans e) fpo.1 fpo.2.1 fpo.2.2.2.1 fpo.2.2.2.2.1 fpo.2.2.2.2.2, rfl, qq⟩⟩
  refine thnF (T.item (X.blk s3 H3 scope ce fp) rfl rfl rfl calm i [] s5 _ H5 (fun _ _ => False) I5 (stat I5 n5) st5 go) ?_
  rintro r s6 ⟨u, rfl, h6⟩
  refine thnF h6 ?_
  rintro _ s7 ⟨x, H7, I7, r7, y7, st7, n7⟩
  have I7' := I7.pinned (stat I7 n7) (T.obj _ _ st7)
  refine thnF (pg.run _ s7 _ H7 x u _ I7' r7 (step x H7 y7)) ?_
  rintro _ s8 ⟨σ8, H8, I8, hw8, q8⟩
  refine thnF (pt.run _ s8 σ8 H8 _ I8 q8) ?_
  rintro b s9 ⟨H9, I9, q9⟩
  have fin : ∀ {s' : Shared} {H' : Hp}, Inv (X.blk s3 H3 scope ce fp) ([] ++ pinsAt fp s7.heap) σ8 H' s' → Nx H' →
      ∃ m, m < n ∧ ∃ i H', Inv (X.blk s3 H3 scope ce fp) [] (wipe σ (own.map (·.2))) H' s' ∧ tn i s'.heap ∧ (∀ b ∈ fp, H' b = none) ∧ W i m H' := by
    intro s' H' I' nx
    obtain ⟨m', hm, w'⟩ := hNx H' nx
    have held : ∀ b ∈ fp, ∀ o, s7.heap.get? b = some o → s'.heap.get? b = some o ∧ H' b = none := fun b hb o e =>
      have z := I'.pin (b, o) (List.mem_append_right _ (List.mem_append_right _ (mem_pinsAt hb e)))
      ⟨z.1, z.2.1⟩
    have hl : (wipe σ (own.map (·.2))).length = σ8.length := by rw [← hw8, wipe_length]
    refine ⟨m', hm, i + 1, H', (I'.unpinned (pins := [])).weak hl (fun j v e => ?_), T.keep _ _ _ st7 (fun b hb o e => (held b hb o e).1), (fun b hb => ?_), w'⟩
    · rw [← hw8] at e
      exact (wipe_some e).1
    · obtain ⟨o, e, _⟩ := T.obj _ _ st7 b hb
      exact (held b hb o e).2
  cases b with
  | false =>
    have q9 : Nx H9 := q9
    exact fin I9 q9
  | true =>
    have q9 : te σ8 H9 _ := q9
    refine thnF (pe.run _ s9 σ8 H9 _ I9 q9) ?_
    rintro z s10 ⟨yv, H10, I10, r10, c, S0, n0, rfl, hD10, hz10, nx⟩
    obtain ⟨t, rfl⟩ : ∃ t, z = .int c t := r10
    exact addI_ok (X := X.blk s3 H3 scope ce fp) I10 hD10 hz10 fun s11 I11 => fin I11 nx
/-- len of such a set -/
theorem call_lenSet : CallR X (.builtin "len") (fun xs H Q => ∃ (D : Addr) (S : Int → Bool) (n : Nat), xs = [.ref D] ∧ H D = some (SetO X.w D S n) ∧ Q (.int (n : Nat)) H) := by
  intro pn s σ H xs us Q I r h
  obtain ⟨D, S, n, rfl, hD, q⟩ := h
  match us, r with
  | [_], .cons r1 .nil =>
    cases r1
    have R := setO_get I hD
    obtain ⟨o, es, ep, t, ho, hex, hd, _, _, hb, hf, hn⟩ := R.setOf (P := X.prog)
    refine call_len_set ho hex hd hf (by unfold scanBound at hb; omega) ⟨.int n, H, I.tok _, ⟨_, by rw [hn]⟩, q⟩
end
/-- along a walk: Pv by the turn and the heap -/
theorem sc_it {w : World} {J : It} {n : Nat} {G : Hp → Prop} {Y : Nat → Hp → V → Hp → Prop} (wk : Walk J n G Y) {g : TG} {tt : TT} {te : TE} {vs : List Nat} {σ : L2.St} {H1 : Hp} {D : Addr} {Qd : Hp → Prop} (Pv : Nat → Hp → Prop)
    (start : Pv 0 (upd H1 D (SetO w D (fun _ => false) 0))) (stands : ∀ i H, i ≤ n → Pv i H → G H)
    (turn : ∀ i x H H', i < n → Pv i H → Y i H x H' → g x (wipe σ vs) H' fun σ2 H2 => wipe σ2 vs = wipe σ vs ∧ tt σ2 H2 fun b H3 => if b = true then te σ2 H3 fun y H4 =>
      ∃ (c : Int) (S : Int → Bool) (k : Nat), y = .int c ∧ H4 D = some (SetO w D S k) ∧ k + 1 < scanBound ∧ Pv (i + 1) (upd H4 D (SetO w D (fun j => S j || decide (j = c)) (if S c = true then k else k + 1))) else Pv (i + 1) H3)
    (done : ∀ H, Pv n H → Qd H) :
    ∃ W : Nat → Nat → Hp → Prop, (∃ m, W 0 m (upd H1 D (SetO w D (fun _ => false) 0))) ∧ ∀ i m H, W i m H →
    (J.stop i H ∧ Qd H) ∨ (J.go i H ∧ ∃ Nx : Hp → Prop, (∀ H', Nx H' → ∃ m', m' < m ∧ W (i + 1) m' H') ∧ ∀ x H', J.yld i H x H' →
      g x (wipe σ vs) H' fun σ2 H2 => wipe σ2 vs = wipe σ vs ∧ tt σ2 H2 fun b H3 => if b = true then te σ2 H3 fun y H4 =>
        ∃ (c : Int) (S : Int → Bool) (n : Nat), y = .int c ∧ H4 D = some (SetO w D S n) ∧ n + 1 < scanBound ∧ Nx (upd H4 D (SetO w D (fun j => S j || decide (j = c)) (if S c = true then n else n + 1))) else Nx H3) := by
  refine ⟨fun i m H => (m = n - i ∧ i ≤ n) ∧ Pv i H, ⟨n, ⟨by simp, Nat.zero_le _⟩, start⟩, ?_⟩
  rintro i m H ⟨⟨rfl, le⟩, pv⟩
  have q := stands i H le pv
  rcases Nat.lt_or_ge i n with lt | ge
  · exact .inr ⟨wk.goes i H lt q, Pv (i + 1), fun H' p' => ⟨n - (i + 1), by omega, ⟨rfl, lt⟩, p'⟩, fun x H' y => turn i x H H' lt pv (wk.yields i H x H' lt q y)⟩
  · obtain rfl : i = n := by omega
    exact .inl ⟨wk.stops H q, done H pv⟩
end Gd

namespace KW
open PySem L2 Gd Zn KM KP
section
variable {P : Program} {w : World} {K : PySem.W.Frag} {mg : Str → Option Value} {base : Heap}
abbrev sis_bounds : Stmt := top 49
theorem scis_bounds : FnScope ["value", "_", "costs", "entry"] ["value"] (defScope sis_bounds) := ⟨rfl, rfl, rfl, by decide +kernel, rfl, by decide +kernel, by decide +kernel⟩
theorem ok_isb {f f1 f2 : Addr} {fd fd1 fd2 : FuncData} (F : Fun K "is_bounds" "is_bounds" sis_bounds f fd) (T : Txt K mg base)
    (D_is_list : Df P w K mg base CX0 1 "is_list" f1 fd1 ["value"] spIsList) (D_is_bounds_entry : Df P w K mg base CX0 3 "is_bounds_entry" f2 fd2 ["value"] spEntry) : FnG P w K mg base CX0 4 f fd ["value"] spIsB := by
  refine okG F scis_bounds (fun vs H Q E h => ?_) (fun cdv A outer s H vs Q E hc hr h => ?_)
  · obtain ⟨b, v, l, m, rfl, _⟩ := h
    rfl
  obtain ⟨b, v, l, m, rfl, ⟨p, us, rfl, hp, hu⟩, ho, hl, q⟩ := h
  refine ⟨_, (pss_cons (ps_if (PW.pt (pw_or (pt_not (pt_val (pe_d D_is_list hc (hr.mono (by omega)) (by rfl) (fun _ => passN) (pa_cons (pv 0) pa_nil)))) (pw_or1 (pt_not (pt_val (pe_callB (cr_all rfl) (by rfl) T.z_all (by decide +kernel) (pa_cons (pe_lc (own := [("entry", 3)]) (g := gName 3) rfl scis_bounds.nd (pi_sq (pv 0)) (blkOk_by (N := ["value", "_", "costs", "entry"]) (sc := defScope sis_bounds) (by decide +kernel)) (fun _ _ _ _ _ => pg_name (i := 3) scis_bounds.nd rfl (Or.inl rfl)) (fun _ _ _ _ _ => pts_nil) (fun _ _ _ _ _ => (pe_d D_is_bounds_entry hc (hr.mono (by omega)) (by rfl) (fun _ => passN) (pa_cons (pv 3) pa_nil)))) pa_nil)))))))
  (pss_one (ps_ret pe_bl)) pss_nil)
 (pss_one (ps_ret (pe_cmpR op_le (pe_callB call_lenSet (by rfl) T.z_len (by decide +kernel) (pa_cons (pe_scI (own := [("_", 1), ("costs", 2)]) (g := _) rfl scis_bounds.nd (pi_sq (pv 0)) (blkOk_by (N := ["value", "_", "costs", "entry"]) (sc := defScope sis_bounds) (by decide +kernel)) (fun _ _ _ _ _ => (pg_tupK (K := K) (n := 2) rfl rfl (pgs_cons (pg_name (i := 1) scis_bounds.nd rfl (Or.inl rfl)) (pgs_cons (pg_name (i := 2) scis_bounds.nd rfl (Or.inl rfl)) pgs_nil)))) (fun _ _ _ _ _ => pts_nil) (fun _ _ _ _ _ => (pe_callB (call_lenK (K := K) rfl) (by rfl) T.z_len (by decide +kernel) (pa_cons (pv 2) pa_nil)))) pa_nil)) pe_int (nomark _))))), ?_⟩
  have lu := hu.len
  have z16 := sizeLine_eq
  refine ⟨_, rfl, b, p, _, rfl, hp, fun H1 s1 => ⟨_, rfl, iteF ?_⟩⟩
  refine ⟨_, rfl, b, p, _, rfl, so_sq (s1 _ _ hp), fun D hD => ?_⟩
  refine lc_it walk_sq (fun i H' => Vls H1 D ((us.take i).map fun _ => V.bl true) H') (Vls.nil hD) (fun i H' _ v => so_sq (v.same _ _ (s1 _ _ hp))) ?_ ?_
  · rintro i v H2 _ hi vl ⟨rfl, hx⟩
    obtain ⟨t, c, n, cs, rfl, e1, e2, e3⟩ := hu.get hx
    have ok := ho (n, cs) (List.mem_of_getElem? e1)
    have s2 := s1.trans vl.same
    refine ⟨rfl, yes_go ⟨_, rfl, b, t, c, n, cs, rfl, s2 _ _ e2, s2 _ _ e3, ok.1, fun H3 s3 => ?_⟩⟩
    have add := (vl.ext s3).add (y := V.bl true) (by rw [List.length_map, List.length_take]; omega)
    rw [take_succ hx, List.map_append]
    exact add
  intro H2 vl
  rw [List.take_length] at vl
  refine ⟨D, us.map fun _ => true, rfl, SqL.of (by rw [List.map_map]; exact vl.at_), ?_⟩
  rw [show (us.map fun _ => true).all id = true by simp]
  refine ⟨_, rfl, iteF ?_⟩
  have s2 := s1.trans vl.same
  refine ⟨_, rfl, b, p, _, rfl, so_sq (s2 _ _ hp), fun D2 hD2 => ?_⟩
  refine sc_it walk_sq (fun i H' => Same H2 H' ∧ ∃ S k, H' D2 = some (SetO w D2 S k) ∧ k ≤ 1 ∧ (∀ j, S j = true → j = (m : Int)) ∧ (k = 1 → S m = true)) ⟨upd_new hD2, _, 0, upd_same, by omega, (fun j z => nomatch z), (fun z => nomatch z)⟩ (fun i H' _ v => so_sq (v.1 _ _ (s2 _ _ hp))) ?_ ?_
  · rintro i v H3 _ hi ⟨s3, S, k, hS, k1, Sm, ko⟩ ⟨rfl, hx⟩
    obtain ⟨t, c, n, cs, rfl, e1, e2, e3⟩ := hu.get hx
    have lm : cs.length = m := (ho (n, cs) (List.mem_of_getElem? e1)).2
    have s4 := s2.trans s3
    refine ⟨t, _, rfl, SqT.of (s4 _ _ e2), rfl, _, _, rfl, _, _, rfl, rfl, rfl, yes_go ?_⟩
    refine ⟨_, rfl, c, cs.map oV, rfl, so_any (s4 _ _ e3), m, S, k, by rw [List.length_map, lm], hS, by unfold scanBound; omega, ?_, _, _, upd_same, ?_, ?_, ?_⟩
    · intro a o e
      rw [upd_ne (ne_of_none e hD2)]
      exact s3 _ _ e
    · by_cases z : S m = true
      · rw [if_pos z]
        omega
      · rw [if_neg z]
        have : k ≠ 1 := fun y => z (ko y)
        omega
    · intro j z
      rw [Bool.or_eq_true, decide_eq_true_eq] at z
      exact z.elim (Sm j) id
    · intro _
      show (S m || decide ((m : Int) = m)) = true
      simp
  · rintro H3 ⟨s3, S, k, hS, k1, Sm, ko⟩
    refine ⟨D2, S, k, rfl, hS, _, _, rfl, rfl, ?_⟩
    show Q (.bl (decide ((k : Int) ≤ 1))) H3
    rw [decide_eq_true (by omega)]
    exact q _ (s2.trans s3)
end
end KW

namespace Gd
open PySem PySem.Spec PyProof.Rows L2 LamX
/-! ### lambdas with parameters, that capture nothing, as tracked things -/
def LamO (f c' : Addr) (q : Str) (params : Arguments) (body : Expr) (scope : Scope) : HO :=
  .ext fun h => ∃ pm ctv, h.get? f = some (PySem.W.kla_obj "<lambda>" q params body scope [] pm c' ctv)
theorem lamO_ok {P : Program} {w : World} {H : Hp} {h : Heap} {f c' : Addr} {q : Str} {params : Arguments} {body : Expr} {scope : Scope} {pm ctv : Value}
    (e : h.get? f = some (PySem.W.kla_obj "<lambda>" q params body scope [] pm c' ctv)) : ObjOk P w H h f (LamO f c' q params body scope) :=
  ⟨⟨pm, ctv, e⟩, ⟨_, e⟩, fun h1 h2 ⟨pm, ctv, e1⟩ st => ⟨pm, ctv, st _ e1⟩⟩
/-- the code objects of q's own name, in the table at P -/
def tLamP (P : Addr) (q : Str) (params : Arguments) (body : Expr) (scope : Scope) : TE := fun _ H Q => TabS H P q ∧
  ∀ f c' H1, ExtN H H1 → (∀ b, H1 b = none → H b = none) → TabS H1 P q → H f = none → H1 f = some (LamO f c' q params body scope) → H1 c' = some (CodeO c' q) → Q (.ref f) H1
section
variable {X : Cx}
theorem pe_lam {c P : Addr} {q : Str} {params : Arguments} {body : Expr} {scope : Scope} {pos : Pos} (TB : TabB X.base X.mg c P) (hcode : X.env.code = .ref c) (eq : X.env.qual ++ "<lambda>" = q) (hdef : defaultsOf params X.env = ([], []) := by rfl) (hcl : closureFor scope X.env = pure [] := by rfl) :
    PE X (.Lambda params body scope pos) (tLamP P q params body scope) := by
  refine ⟨fun pn s σ H Q I h => ?_⟩
  obtain ⟨⟨ps, hP, ht, ha⟩, h⟩ := h
  refine PySem.W.kla_eval hdef ?_
  rw [eq]
  have bP : s.heap.BuiltinsAt X.mg P := TB.bm.keeps I.bk
  have hP' : s.heap.get? P = some { cls := .none, data := .fields ps } := I.hok P _ hP
  cases hc : codeAmong pos ps.toList with
  | none =>
    refine PySem.W.kla_makeFunction (mg := X.mg) (c := c) (P := P) (ps := ps) hcl I.ok.glob (I.mod.glob.keeps I.bk) hcode (TB.code.keeps I.bk) hP' ht hc TB.gP bP fun c' ctv h' tk hx hge hlt hrec htb => ?_
    obtain ⟨c2, oc, vs, t, e2, hoc, hd, hv⟩ := hrec
    cases e2
    have nC : H c' = none := I.hok.fresh hge
    have I1 := inv_table (q := q) (t' := tk) (more := #[rawInt pos.line, rawInt pos.col, .ref c']) I hP hx htb hge ⟨oc, vs, t, hoc, hd, hv⟩
    obtain ⟨H1, hH1⟩ : ∃ H1, upd (upd H P (.tbl (ps ++ #[rawInt pos.line, rawInt pos.col, .ref c']))) c' (CodeO c' q) = H1 := ⟨_, rfl⟩
    rw [hH1] at I1
    have hE : ExtN H H1 := fun b o e n => by
      rw [← hH1, upd_ne (ne_of_none e nC), upd_ne (fun z => n ps (Option.some.inj (e.symm.trans (by rw [z]; exact hP))))]
      exact e
    have hE2 : H1 c' = some (CodeO c' q) := by rw [← hH1]; exact upd_same
    have T1 : TabS H1 P q := by
      have eL : (ps ++ #[rawInt pos.line, rawInt pos.col, .ref c']).toList = ps.toList ++ [rawInt pos.line, rawInt pos.col, .ref c'] := by simp
      refine ⟨_, by rw [← hH1, upd_ne (ne_of_none hP nC), upd_same], by rw [eL]; exact PySem.TriplesOk_snoc _ _ _ _ ht, fun p' cv hcv => ?_⟩
      rw [eL] at hcv
      rcases among_app _ ht hcv with z | z
      · obtain ⟨c0, e1, e2⟩ := ha p' cv z
        exact ⟨c0, e1, hE _ _ e2 codeO_ne⟩
      · exact ⟨c', z, hE2⟩
    have nf : H1 h'.objs.size = none := I1.hok.fresh (Nat.le_refl _)
    have I2 := I1.laid (t' := tk) (o := LamO h'.objs.size c' q params body scope) (h' := h'.push (PySem.W.kla_obj "<lambda>" q params body scope [] ((X.mg "__name__").getD .none) c' ctv)) (fun b o e => Heap.get?_push_of_some _ e) (Nat.le_refl _)
      (lamO_ok (Heap.get?_push_size _ rfl))
    have s2 : ∀ b o, H1 b = some o → upd H1 h'.objs.size (LamO h'.objs.size c' q params body scope) b = some o := fun b o e => by rw [upd_ne (ne_of_none e nf)]; exact e
    refine ⟨.ref h'.objs.size, _, I2, rfl, h _ c' _ (hE.trans (ExtN.of s2)) (fun b z => ?_) (T1.ext s2) ?_ upd_same (s2 _ _ hE2)⟩
    · refine Classical.byContradiction fun q => ?_
      obtain ⟨o, e⟩ := Option.ne_none_iff_exists'.mp q
      by_cases hb : b = P
      · have e1 : H1 b ≠ none := by
          rw [hb, ← hH1, upd_ne (ne_of_none hP nC), upd_same]
          exact fun z => nomatch z
        obtain ⟨o1, e2⟩ := Option.ne_none_iff_exists'.mp e1
        rw [s2 _ _ e2] at z
        exact nomatch z
      · have e1 : H1 b = some o := by rw [← hH1, upd_ne (ne_of_none e nC), upd_ne hb]; exact e
        rw [s2 _ _ e1] at z
        exact nomatch z
    cases e : H h'.objs.size with
    | none => rfl
    | some o =>
      have lt : h'.objs.size < s.heap.objs.size := (I.hok _ _ e).lt
      omega
  | some cv =>
    obtain ⟨c', rfl, hco⟩ := ha pos cv hc
    refine PySem.W.kla_makeFunctionHit (mg := X.mg) (c := c) (P := P) (ps := ps) hcl I.ok.glob (I.mod.glob.keeps I.bk) hcode (TB.code.keeps I.bk) hP' ht hc bP fun ctv h' tk hx hsz => ?_
    have nf : H h'.objs.size = none := I.hok.fresh hsz
    have I2 := I.laid (t' := tk) (o := LamO h'.objs.size c' q params body scope) (h' := h'.push (PySem.W.kla_obj "<lambda>" q params body scope [] ((X.mg "__name__").getD .none) c' ctv)) (fun b o e => Heap.get?_push_of_some _ (hx b o e)) hsz
      (lamO_ok (Heap.get?_push_size _ rfl))
    have s2 : ∀ b o, H b = some o → upd H h'.objs.size (LamO h'.objs.size c' q params body scope) b = some o := fun b o e => by rw [upd_ne (ne_of_none e nf)]; exact e
    exact ⟨.ref h'.objs.size, _, I2, rfl, h _ c' _ (ExtN.of s2) (fun b z => Classical.byContradiction fun q => by
      obtain ⟨o, e⟩ := Option.ne_none_iff_exists'.mp q
      rw [s2 _ _ e] at z
      exact nomatch z) (TabS.ext ⟨ps, hP, ht, ha⟩ s2) nf upd_same (s2 _ _ hco)⟩
end
/-! ### a value that can be called: a def of the text, or such a lambda that stands in the heap -/
structure Cal (P : Program) (w : World) (K : PySem.W.Frag) (mg : Str → Option Value) (base : Heap) (k : Nat) (G : Hp → Prop) (f : Addr) (sp : List V → Hp → VK → Prop) : Prop where
  fn : ∀ (h : Heap) (H : Hp), K.In h → HOk P w H h → G H → PySem.W.FnAt f h
  run : ∀ (A : Around) (outer : List Env) (s : Shared) (H : Hp) (us : List Value) (vs : List V) (Q : VK), Clean A → Room k A → Env0 P w K mg base A outer s H → Vals vs us → G H → sp vs H Q →
    codeAny (model P w) A (.call (.ref f) ⟨us, []⟩) (CR CX0 outer P w H s Q E0) s
theorem Cal.mono {P : Program} {w : World} {K : PySem.W.Frag} {mg : Str → Option Value} {base : Heap} {k k' : Nat} {G : Hp → Prop} {f : Addr} {sp : List V → Hp → VK → Prop} (C : Cal P w K mg base k G f sp) (h : k ≤ k') : Cal P w K mg base k' G f sp :=
  ⟨C.fn, fun A outer s H us vs Q hc hr e0 r g q => C.run A outer s H us vs Q hc (hr.mono h) e0 r g q⟩
/-- a def of the text -/
theorem Cal.def {P : Program} {w : World} {K : PySem.W.Frag} {mg : Str → Option Value} {base : Heap} {k : Nat} {f : Addr} {fd : FuncData} {ps : List Str} {sp : Sp} {x qual : Str} {st : Stmt} (F : Fun K x qual st f fd) (C : FnG P w K mg base CX0 k f fd ps sp) (b : Binds K fd ps []) :
    Cal P w K mg base k (fun _ => True) f (fun vs H Q => sp vs H Q E0) := by
  obtain ⟨oc, od, kV, doc, pm, an, cdv, ct, osl, efd, lk, hcd⟩ := F.ex
  refine ⟨fun h H kin _ _ => ⟨_, _, _, _, kin _ _ lk⟩, fun A outer s H us vs Q hc hr e0 r _ q => ?_⟩
  have KX : K.In s.heap := e0.mod.kin.keeps fun b o e => (e0.bs b o e).1
  have hl := C.len _ _ _ _ q
  have b2 := b s us KX (by rw [List.append_nil, ← r.length]; exact hl)
  rw [List.append_nil] at b2
  exact C.run A outer s H ⟨us, []⟩ us vs Q E0 hc hr e0 b2 r q
/-- a lambda: its body's reading -/
theorem Cal.lam {P : Program} {w : World} {K : PySem.W.Frag} {mg : Str → Option Value} {base : Heap} {k : Nat} {f c' : Addr} {q : Str} {params : Arguments} {body : Expr} {scope : Scope} {N ps : List Str} {sp : List V → Hp → VK → Prop} (S : FnScope N ps scope)
    (hb : ∀ (pm ctv : Value) (us : List Value), us.length = ps.length → bindArgs (PySem.W.kla_fn "<lambda>" q params body scope [] pm (.ref c') ctv) ⟨us, []⟩ = pure (ps.zip us)) (len : ∀ vs H Q, sp vs H Q → vs.length = ps.length)
    (hbody : ∀ (A : Around) (outer : List Env) (s : Shared) (H : Hp) (vs : List V) (Q : VK), Clean A → Room k (A.deeper (envOfC q scope s.heap.objs.size f (.ref c'))) → sp vs H Q →
      ∃ t, PE (cxOf CX0 P w K mg base N q scope f (.ref c') A outer s H E0) body t ∧ t (L2.start N vs) H Q) :
    Cal P w K mg base (k + 1) (fun H => H f = some (LamO f c' q params body scope) ∧ H c' = some (CodeO c' q)) f sp := by
  refine ⟨fun h H _ hok ⟨hf, _⟩ => ?_, fun A outer s H us vs Q hc hr e0 r ⟨hf, hcd⟩ q => ?_⟩
  · obtain ⟨⟨pm, ctv, e⟩, _, _⟩ := hok f _ hf
    exact ⟨_, _, _, _, e⟩
  obtain ⟨⟨pm, ctv, hof⟩, _, _⟩ := e0.hok f _ hf
  obtain ⟨⟨oc, vc, t, hoc, hdc, hvc⟩, _, _⟩ := e0.hok c' _ hcd
  have bk : ∀ b o, base.get? b = some o → s.heap.get? b = some o := fun b o e => (e0.bs b o e).1
  have hl := len _ _ _ q
  have hul : us.length = ps.length := by rw [← r.length, hl]
  have hkind : ∀ y ∈ ps.zip us, scope.names.lookup y.1 = some .local ∨ (scope.names.lookup y.1 = some .cell ∧ ((cellsFrom (s.heap.objs.size + 1) scope.names []).lookup y.1).isSome = true) := by
    rintro ⟨n, v⟩ hy
    exact (S.par n (List.of_mem_zip hy).1).imp id fun q => ⟨q, PySem.W.cellsFrom_some _ _ _ (.inl q)⟩
  refine PySem.W.kla_callFunE hr.depth hof rfl S.co S.gen rfl ⟨c', oc, vc, t, rfl, hoc, hdc, hvc⟩ ?_
  rw [hb pm ctv us hul]
  refine wpAny_pure (wpAny_newFunctionEnv_cells S.kind hkind ?_)
  intro env he s1 x
  subst he
  refine ⟨(e0.mod.nolimit.keeps bk).keeps x.toInCall.keep, PySem.W.kla_codeExpr ?_⟩
  obtain ⟨t, ht, hq⟩ := hbody A outer s H vs Q hc (hr.deeper _) q
  have J := inv_start (CX := CX0) (E := E0) S hr.hd e0 hl r x
  refine wpAny_mono (ht.run [] s1 _ H Q J hq) (fun u s' hs => ?_) fun _ _ z => z
  obtain ⟨v, H', J', rv, q⟩ := hs
  exact ⟨v, H', J'.os, J'.bare, J'.base, J'.hok, rv, q⟩
/-- the call of a local name that holds such a value -/
theorem pe_callC {X : Cx} {k i : Nat} {G : Hp → Prop} {f : Addr} {sp : List V → Hp → VK → Prop} {x : Str} {p pos : Pos} {e : Expr} {es : List Expr} {t : TA} (C : Cal X.prog X.w X.K X.mg X.base k G f sp) (hc : Clean X.A) (hr : Room k X.A) (hN : X.N[i]? = some x) (hv : Vis X.env.scope x)
    (hx : Passes CX0 X E0) (ha : PA X (e :: es) t) (hdb : (x == ("__debug__" : Str)) = false := by decide) (hcd : (x == ("__classdict__" : Str)) = false := by decide)
    (he : starEach (e :: es) X.env = (false, eval e X.env) :: starEach es X.env := by rfl) (hpl : (backTo pos (starEach es X.env)).any (·.1) = false := by rfl) :
    PE X (.Call (.Name x p) (e :: es) [] pos) (fun σ H Q => σ[i]? = some (some (.ref f)) ∧ G H ∧ t σ H fun vs H1 => G H1 ∧ sp vs H1 Q) := by
  refine ⟨fun pn s σ H Q I ⟨hs, g, ht⟩ => ?_⟩
  refine wpAny_Call_Name_kw (thn ((pe_var (pos := p) hN hv hdb hcd).run pn s σ H (fun v H1 => v = .ref f ∧ H1 = H) I ⟨.ref f, hs, rfl, rfl⟩) ?_)
  rintro u s1 ⟨_, _, I1, r1, rfl, rfl⟩
  obtain rfl : u = .ref f := r1
  refine PySem.W.callWith_F (C.fn _ _ I1.kIn I1.hok g) (thn (ha.run pos pn s1 σ _ _ I1 ht) ?_) he hpl
  rintro us s2 ⟨vs, H2, I2, r, g2, q⟩
  refine ⟨C.fn _ _ I2.kIn I2.hok g2, wpAny_call (codeAny_mono (C.run X.A X.stack s2 H2 us vs Q hc hr I2.env0 r g2 q) ?_)⟩
  intro r s' hq
  match r, hq with
  | .error e, hq => exact hx pn σ H2 s2 e s' I2 hq
  | .ok (.ret u), hq => exact I2.after hq
  | .ok .next, hq => exact False.elim hq
  | .ok .brk, hq => exact False.elim hq
  | .ok .cont, hq => exact False.elim hq
end Gd
namespace Gd
open PySem PySem.Spec PyProof.Rows L2 LamX
/-- the value of a def, as an argument -/
theorem defK {P : Program} {w : World} {K : PySem.W.Frag} {mg : Str → Option Value} {base : Heap} {CX : CXT} {k : Nat} {x : Str} {f : Addr} {fd : FuncData} {ps : List Str} {sp : Sp} (D : Df P w K mg base CX k x f fd ps sp) : ∃ u, mg x = some u ∧ RelV (.ref f) u := ⟨_, D.m, rfl⟩
/-- a def that makes lambdas: its code object is told -/
theorem okGc {P : Program} {w : World} {K : PySem.W.Frag} {mg : Str → Option Value} {base : Heap} {k : Nat} {f c : Addr} {fd : FuncData} {ps : List Str} {sp : Sp} {CX : CXT} {x qual : Str} {st : Stmt} {N : List Str} (F : Fun K x qual st f fd) (S : FnScope N ps (defScope st))
    (len : ∀ vs H Q E, sp vs H Q E → vs.length = ps.length) (hcode : fd.code = .ref c)
    (hbody : ∀ (A : Around) (outer : List Env) (s : Shared) (H : Hp) (vs : List V) (Q : VK) (E : XK), Clean A → Room k (A.deeper (envOfC qual (defScope st) s.heap.objs.size f (.ref c))) → sp vs H Q E →
      ∃ t, PSs (cxOf CX P w K mg base N qual (defScope st) f (.ref c) A outer s H E) (defBody st) t ∧ t { nx := fun _ H' => Q .non H', rt := Q } (start N vs) H) : FnG P w K mg base CX (k + 1) f fd ps sp := by
  obtain ⟨oc, od, kV, doc, pm, an, cdv, ct, osl, efd, lk, hcd⟩ := F.ex
  subst efd
  obtain rfl : cdv = .ref c := hcode
  refine ⟨len, fun A outer s H args us vs Q E hc hr e0 hb r hsp => ?_⟩
  have bk : ∀ b o, base.get? b = some o → s.heap.get? b = some o := fun b o e => (e0.bs b o e).1
  have KX : K.In s.heap := e0.mod.kin.keeps bk
  have kinds : ∀ y ∈ ps.zip us, (defScope st).names.lookup y.1 = some .local ∨ ((defScope st).names.lookup y.1 = some .cell ∧ ((cellsFrom (s.heap.objs.size + 1) (defScope st).names []).lookup y.1).isSome = true) := by
    rintro ⟨n, v⟩ hy
    exact (S.par n (List.of_mem_zip hy).1).imp id fun q => ⟨q, PySem.W.cellsFrom_some _ _ _ (.inl q)⟩
  refine codeAny_call_function hr.depth (KX _ _ lk) rfl S.co S.gen rfl (PySem.W.codeRec_of KX hcd) (hb _ _ _ _ (wpAny_newFunctionEnv_cells S.kind kinds ?_))
  intro env he s1 x
  subst he
  refine ⟨(e0.mod.nolimit.keeps bk).keeps x.toInCall.keep, codeAny_func ?_⟩
  obtain ⟨t, ht, hq⟩ := hbody A outer s H vs Q E hc (hr.deeper _) hsp
  have I := inv_start (CX := CX) (E := E) S hr.hd e0 (len _ _ _ _ hsp) r x
  refine wpAny_mono (ht.run [] s1 (start N vs) H _ I hq) (fun fl s' hs => ?_) fun _ _ z => z
  match fl, hs with
  | .ret u, ⟨v, σ', H', J, rv, q⟩ => exact ⟨v, H', J.os, J.bare, J.base, J.hok, rv, q⟩
  | .next, ⟨σ', H', J, q⟩ => exact ⟨V.non, H', J.os, J.bare, J.base, J.hok, rfl, q⟩
  | .brk, ⟨_, _, _, q⟩ => exact q.elim
  | .cont, ⟨_, _, _, q⟩ => exact q.elim
end Gd

namespace KW
open PySem L2 Gd Zn KM KP
/-- what stands for items, beside the list at F -/
structure Stands {α : Type} (R : Addr → Hp → List V → List α → Prop) : Prop where
  nil : ∀ {F H}, R F H [] []
  len : ∀ {F H us l}, R F H us l → us.length = l.length
  same : ∀ {F H H' us l}, Same H H' → R F H us l → R F H' us l
  put : ∀ {F H us l ys}, R F H us l → R F (upd H F (.lst ys)) us l
def spRows (f : Addr) (G : Hp → Prop) (sp : List V → Hp → VK → Prop) {α : Type} (wd : α → List Str) (R : Addr → Hp → List V → List α → Prop) : Sp := fun vs H Q _ => ∃ (L : Addr) (hd : Str) (l : List α),
  vs = [.ref L, .int (l.length : Nat), .ref f] ∧ H L = some (.lst ((hd :: l.map fun a => jW (wd a)).map V.str)) ∧ (∀ a ∈ l, wd a ≠ [] ∧ (∀ x ∈ wd a, Wd x) ∧ (wd a).length ≤ 100) ∧ l.length ≤ 7000 ∧ (∀ H1, Same H H1 → G H1) ∧
  (∀ (i : Nat) a F W us H1 Q, l[i]? = some a → Same H H1 → H F = none → H1 F = some (.lst us) → R F H1 us (l.take i) → H1 W = some (.lst ((wd a).map V.str)) → (∀ v H2, Same H1 H2 → v ≠ .non → R F H2 (us ++ [v]) (l.take i ++ [a]) → Q v H2) → sp [.ref W, .ref F] H1 Q) ∧
  ∀ D H' us, Same H H' → H D = none → H' D = some (.lst us) → R D H' us l → Q (.ref D) H'
section
variable {P : Program} {w : World} {K : PySem.W.Frag} {mg : Str → Option Value} {base : Heap}
abbrev sread_rows : Stmt := top 40
theorem scread_rows : FnScope ["lines", "many", "read", "found", "index", "line", "item"] ["lines", "many", "read"] (defScope sread_rows) := ⟨rfl, rfl, rfl, by decide +kernel, rfl, by decide +kernel, by decide +kernel⟩
theorem ok_rows {f f1 f2 : Addr} {fd fd1 : FuncData} {G : Hp → Prop} {sp : List V → Hp → VK → Prop} {α : Type} {wd : α → List Str} {R : Addr → Hp → List V → List α → Prop} (S : Stands R) (F : Fun K "read_rows" "read_rows" sread_rows f fd) (T : Txt K mg base)
    (D_row_words : Df P w K mg base CX0 2 "row_words" f1 fd1 ["line"] spWords) (C : Cal P w K mg base 5 G f2 sp) : FnG P w K mg base CX0 6 f fd ["lines", "many", "read"] (spRows f2 G sp wd R) := by
  refine okG F scread_rows (fun vs H Q E h => ?_) (fun cdv A outer s H vs Q E hc hr h => ?_)
  · obtain ⟨L, hd, l, rfl, _⟩ := h
    rfl
  obtain ⟨L, hd, l, rfl, hL, ok, hl, g, call, q⟩ := h
  refine ⟨_, (pss_cons (ps_set (i := 3) scread_rows.nd rfl (Or.inl rfl) (pe_lst pa_nil))
 (pss_cons (ps_for (passes_of rfl) rfl (pi_enum (by rfl) T.z_enumerate (pa_cons (pv 0) pa_nil)) (pg_tup (by rfl) (pgs_cons (pg_name (i := 4) scread_rows.nd rfl (Or.inl rfl)) (pgs_cons (pg_name (i := 5) scread_rows.nd rfl (Or.inl rfl)) pgs_nil)))
  (pss_one (ps_if (pt_cmpR op_gt (pv 4) pe_int (nomark _))
  (pss_cons (ps_set (i := 6) scread_rows.nd rfl (Or.inl rfl) (pe_ifExp (PW.pt (pw_or (pt_cmpR op_isN (pv 1) pe_non (nomark _)) (pw_or1 (pt_cmpR op_le (pv 4) (pv 1) (nomark _))))) (pe_callC (i := 2) C hc (hr.mono (by omega)) rfl (.inl rfl) pass0 (pa_cons (pe_d D_row_words hc (hr.mono (by omega)) (by rfl) (fun _ => passN) (pa_cons (pv 5) pa_nil)) (pa_cons (pv 3) pa_nil))) pe_non))
 (pss_cons (ps_if (pt_cmpR op_isN (pv 6) pe_non (nomark _))
  (pss_one ps_never) pss_nil)
 (pss_one (ps_expr (pe_bm PySem.F.plainAttrs_list PySem.F.slot_list_append PySem.F.type_list_append mt_append (pv 3) (pa_cons (pv 6) pa_nil)))))) pss_nil)))
 (pss_cons (ps_if (PW.pt (pw_and (pt_cmpR op_notN (pv 1) pe_non (nomark _)) (pw_and1 (pt_cmpR op_lt (pe_callB call_len_seq (by rfl) T.z_len (by decide +kernel) (pa_cons (pv 3) pa_nil)) (pv 1) (nomark _)))))
  (pss_one ps_never) pss_nil)
 (pss_one (ps_ret (pv 3)))))), ?_⟩
  have z16 := sizeLine_eq
  refine ⟨by show 0 ≤ sizeLine; omega, fun D hD => ?_⟩
  refine ⟨_, rfl, L, _, rfl, SqL.of (upd_new hD _ _ hL), ?_⟩
  have lm : ((hd :: l.map fun a => jW (wd a)).map V.str).length = l.length + 1 := by rw [List.length_map, List.length_cons, List.length_map]
  refine for_it walk_enum (fun i σ H' => ∃ o4 o5 o6 us, σ = [some (.ref L), some (.int (l.length : Nat)), some (.ref f2), some (.ref D), o4, o5, o6] ∧ Same H H' ∧ H' D = some (.lst us) ∧ R D H' us (l.take (i - 1)))
    ⟨none, none, none, [], rfl, upd_new hD, upd_same, by rw [List.take_zero]; exact S.nil⟩ (fun i σ H' _ ⟨_, _, _, _, _, n, _⟩ => SqL.of (n _ _ hL)) ?_ ?_
  · rintro i x _ H3 H4 hi ⟨o4, o5, o6, us, rfl, n, hF, a2⟩ ⟨Tp, x1, x2, rfl, hT, rfl, hx1, hx2⟩
    have ex1 : x1 = .int (i : Nat) := (Option.some.inj hx1).symm
    subst ex1
    have hx2 : ((hd :: l.map fun a => jW (wd a)).map V.str)[i]? = some x2 := hx2
    have s1 : Same H3 (upd H3 Tp (.tup [.int (i : Nat), x2])) := upd_new hT
    rw [lm] at hi
    refine ⟨Tp, [.int (i : Nat), x2], rfl, SqT.of upd_same, rfl, _, _, rfl, _, _, rfl, rfl, ?_⟩
    refine ⟨_, rfl, _, _, rfl, rfl, _, rfl, ?_⟩
    match i, hi, hx2, a2, s1 with
    | 0, hi, hx2, a2, s1 => exact iteF ⟨_, _, _, us, rfl, n.trans s1, s1 _ _ hF, S.same s1 a2⟩
    | i + 1, hi, hx2, a2, s1 =>
      rw [decide_eq_true (show (0 : Int) < ((i + 1 : Nat) : Int) by omega)]
      rw [List.map_cons, List.getElem?_cons_succ, List.getElem?_map, List.getElem?_map] at hx2
      obtain ⟨z, hz, rfl⟩ := Option.map_eq_some_iff.mp hx2
      obtain ⟨a, ha, rfl⟩ := Option.map_eq_some_iff.mp hz
      obtain ⟨w0, w1, w2⟩ := ok a (List.mem_of_getElem? ha)
      refine iteT ⟨_, rfl, rfl, _, rfl, iteF ⟨_, rfl, _, rfl, _, _, rfl, rfl, _, rfl, ?_⟩⟩
      rw [decide_eq_true (show ((i + 1 : Nat) : Int) ≤ (l.length : Nat) by omega)]
      refine iteT ⟨rfl, g _ (n.trans s1), _, rfl, wd a, rfl, w0, w1, w2, fun W hW => ⟨_, rfl, g _ (n.trans (s1.trans (upd_new hW))), ?_⟩⟩
      have s2 := s1.trans (upd_new hW (o := .lst ((wd a).map V.str)))
      refine call i a D W us _ _ ha (n.trans s2) hD (s2 _ _ hF) (S.same s2 a2) upd_same fun v H5 s5 nv rv => ?_
      refine ⟨_, rfl, rfl, _, rfl, ?_⟩
      rw [decide_eq_false nv]
      have lu := S.len a2
      rw [List.length_take] at lu
      refine iteF ⟨_, rfl, .inl ⟨rfl, _, SqL.of (s5 _ _ (s2 _ _ hF))⟩, _, rfl, D, us, _, rfl, rfl, s5 _ _ (s2 _ _ hF), by omega, ?_⟩
      refine ⟨_, _, _, _, rfl, fun b o e => ?_, upd_same, ?_⟩
      · rw [upd_ne (ne_of_none e hD)]
        exact s5 _ _ (s2 _ _ (n _ _ e))
      · rw [show i + 1 + 1 - 1 = i + 1 from rfl, take_succ ha]
        exact S.put rv
  · rintro _ H3 ⟨o4, o5, o6, us, rfl, n, hF, a2⟩
    rw [lm, Nat.add_sub_cancel, List.take_length] at a2
    refine ⟨_, rfl, rfl, _, rfl, iteT ⟨_, rfl, D, _, rfl, .inl (SqL.of hF), _, rfl, _, _, rfl, rfl, _, rfl, ?_⟩⟩
    rw [S.len a2, decide_eq_false (by omega)]
    exact iteF ⟨_, rfl, q D H3 us n hD hF a2⟩
end
end KW

namespace Gd
open PySem PySem.Spec PyProof.Rows L2
/-! ### how often a text is in a list of None, ints, texts and tuples -/
inductive Sim (H : Hp) : V → Prop
  | non : Sim H .non
  | int (i : Int) : Sim H (.int i)
  | str (x : Str) : Sim H (.str x)
  | tup {a : Addr} {xs : List V} : H a = some (.tup xs) → Sim H (.ref a)
def isTx (k : Str) : V → Bool
  | .str x => x == k
  | _ => false
def isTxV (k : Str) : Value → Bool
  | .str x _ => x == k
  | _ => false
theorem isTx_rel {k : Str} {H : Hp} : ∀ {xs : List V} {us : List Value}, Vals xs us → (∀ x ∈ xs, Sim H x) → us.countP (isTxV k) = xs.countP (isTx k)
  | _, _, .nil, _ => rfl
  | _, _, .cons (a := x) (b := u) r rs, h => by
    have ih := isTx_rel (k := k) rs fun x hx => h x (List.mem_cons_of_mem _ hx)
    rw [List.countP_cons, List.countP_cons, ih]
    have e : isTxV k u = isTx k x := by
      cases h x List.mem_cons_self with
      | non => cases r; rfl
      | int i => obtain ⟨t, rfl⟩ := r; rfl
      | str y => obtain ⟨t, rfl⟩ := r; rfl
      | tup _ => cases r; rfl
    rw [e]
section
variable {X : Cx}
theorem mt_lcountS (hu : X.A.units + 100 < cLine) : MtR X "list.count" (fun x xs H Q => ∃ (p : Addr) (ys : List V) (k : Str), x = .ref p ∧ xs = [.str k] ∧ H p = some (.lst ys) ∧ (∀ y ∈ ys, Sim H y) ∧ Q (.int (ys.countP (isTx k) : Nat)) H) := by
  intro pn s σ H x xs v us Q I rx rxs h
  obtain ⟨p, ys, k, rfl, rfl, hp, hy, q⟩ := h
  cases rx
  obtain ⟨u, rfl, t, rfl⟩ := rxs.one
  obtain ⟨its, rv, ⟨⟨cls, dd, data, sl⟩, n, ho, hc, hdn, hd⟩, hlen⟩ := I.list (SqL.of hp)
  simp only at hc hd
  subst hc hd
  have key : ∀ (ys : List V) (its : List Value), Vals ys its → (∀ y ∈ ys, Sim H y) → ∀ z ∈ its, SeqAt.EqAt X.A.in1 s z (.str k t) (isTxV k z) := by
    intro ys its rv hy z hz
    induction rv with
    | nil => exact nomatch hz
    | @cons y ys z0 its r rs ih =>
      rcases List.mem_cons.mp hz with rfl | hz
      · cases hy y List.mem_cons_self with
        | non => cases r; exact SeqAt.EqAt.none_str k t
        | int i => obtain ⟨t', rfl⟩ := r; exact SeqAt.EqAt.int_str i t' k t
        | str y => obtain ⟨t', rfl⟩ := r; exact SeqAt.EqAt.str_str y t' k t
        | tup ha =>
          cases r
          obtain ⟨ts, _, ⟨o, e, hcl, m, hdt⟩, _⟩ := I.tuple (SqT.of ha)
          exact SeqAt.EqAt.tuple_str k t ⟨o, e, hcl, m, hdt⟩ (by
            show X.A.in1.units < cLine
            rw [Around.in1_units]
            omega)
      · exact ih (fun y hy' => hy y (List.mem_cons_of_mem _ hy')) hz
  refine call_meets PySem.F.slot_list_count ⟨_, ho, rfl⟩ PySem.F.entry_list_count (PySem.F.args_list_count_2 _ _)
    (SeqAt.list_countAt p its.toArray n dd sl (.str k t) (isTxV k)) ⟨ho, fun z hz => key ys its rv hy z (by simpa using hz), ?_⟩
  refine ⟨.int (ys.countP (isTx k) : Nat), H, I.tok _, ⟨s.toks, ?_⟩, q⟩
  show Value.int ((its.toArray.toList.countP (isTxV k) : Nat) : Int) s.toks = _
  rw [show its.toArray.toList = its from rfl, isTx_rel rv hy]
end
end Gd
namespace Gd
open PySem PySem.Spec PyProof.Rows L2
/-! a built-in's method within a comprehension: the fragment by its own name -/
theorem pe_bmK {X : Cx} {K : PySem.W.Frag} {o e : Expr} {es : List Expr} {to : TE} {t : TA} {name : Str} {apos cpos : Pos} {T id : String} {r : V → List V → Hp → VK → Prop} (hK : X.K = K) (pa : PlainAttrs T) (slot : Slot T name id) (hty : typeOf (.builtin id) = pure (.type "method_descriptor")) (hm : MtR X id r) (ho : PE X o to) (ha : PA X (e :: es) t)
    (hbase : attributeBase o name X.env (eval o X.env) = eval o X.env := by rfl)
    (hfew : ((backTo cpos (starEach (e :: es) X.env)).all (fun x => !x.1) && (backToKw cpos (keywordEach [] X.env)).all (fun x => x.1.isSome) && decide ((e :: es).length + ([] : List Keyword).length + (if ([] : List Keyword).isEmpty then 0 else 1) < 30)) = true := by rfl)
    (hline : (apos.endLine == cpos.line) = true := by rfl) (hs : starEach (e :: es) X.env = (false, eval e X.env) :: starEach es X.env := by rfl) (hplain : (backTo cpos (starEach es X.env)).any (·.1) = false := by rfl) :
    PE X (.Call (.Attribute o name apos) (e :: es) [] cpos) (tBM K T r to t) := by
  subst hK
  exact pe_bm pa slot hty hm ho ha hbase hfew hline hs hplain
theorem pe_bm0K {X : Cx} {K : PySem.W.Frag} {o : Expr} {to : TE} {name : Str} {apos cpos : Pos} {T id : String} {r : V → List V → Hp → VK → Prop} (hK : X.K = K) (pa : PlainAttrs T) (slot : Slot T name id) (hty : typeOf (.builtin id) = pure (.type "method_descriptor")) (hm : MtR X id r) (ho : PE X o to)
    (hbase : attributeBase o name X.env (eval o X.env) = eval o X.env := by rfl) (hline : (apos.endLine == cpos.line) = true := by rfl) : PE X (.Call (.Attribute o name apos) [] [] cpos) (tBM0 K T r to) := by
  subst hK
  exact pe_bm0 pa slot hty hm ho hbase hline
end Gd
namespace Gd
open PySem PySem.Spec PyProof.Rows L2
/-! == and != of data within a comprehension -/
theorem op_eqDK {X : Cx} {K : PySem.W.Frag} (hK : X.K = K) (hu : X.A.units + 64 < cLine) : OpR X (compareOp .Eq) (rEqD K) := by
  subst hK
  exact op_eqD hu
theorem op_neDK {X : Cx} {K : PySem.W.Frag} (hK : X.K = K) (hu : X.A.units + 64 < cLine) : OpR X (compareOp .NotEq) (rNeD K) := by
  subst hK
  exact op_neD hu
end Gd

namespace KW
open PySem L2 Gd Zn KM KP
abbrev sMore : Str := "more"
/-- what a read list holds, and its own lists, each once -/
inductive Fnd (H : Hp) : List V → List Addr → Prop
  | nil : Fnd H [] []
  | txt {x : Str} {us : List V} {qs : List Addr} : Fnd H us qs → Fnd H (.str x :: us) qs
  | pair {a : Addr} {x : V} {y : Str} {us : List V} {qs : List Addr} : H a = some (.tup [x, .str y]) → Fnd H us qs → Fnd H (.ref a :: us) qs
  | own {a q : Addr} {x : V} {ws us : List V} {qs : List Addr} : H a = some (.tup [x, .ref q]) → H q = some (.lst ws) → (∀ y ∈ ws, Sim H y) → ws.countP (isTx sMore) = 0 → ws.length ≤ 10000 → q ∉ qs → Fnd H us qs → Fnd H (.ref a :: us) (q :: qs)
theorem Fnd.snoc {H : Hp} {vs : List V} {rs : List Addr} (h2 : Fnd H vs rs) : ∀ {us : List V} {qs : List Addr}, Fnd H us qs → (∀ q ∈ qs, q ∉ rs) → Fnd H (us ++ vs) (qs ++ rs)
  | _, _, .nil, _ => h2
  | _, _, .txt h, d => .txt (Fnd.snoc h2 h d)
  | _, _, .pair e h, d => .pair e (Fnd.snoc h2 h d)
  | _, _, .own (q := q) e1 e2 e3 e4 e5 e6 h, d => .own e1 e2 e3 e4 e5 (fun m => (List.mem_append.mp m).elim e6 (d q List.mem_cons_self)) (Fnd.snoc h2 h fun q hq => d q (List.mem_cons_of_mem _ hq))
theorem Fnd.nd {H : Hp} : ∀ {us : List V} {qs : List Addr}, Fnd H us qs → qs.Nodup
  | _, _, .nil => List.nodup_nil
  | _, _, .txt h => Fnd.nd h
  | _, _, .pair _ h => Fnd.nd h
  | _, _, .own _ _ _ _ _ e6 h => List.nodup_cons.mpr ⟨e6, Fnd.nd h⟩
theorem Fnd.get {H : Hp} : ∀ {us : List V} {qs : List Addr}, Fnd H us qs → ∀ q ∈ qs, ∃ ws, H q = some (.lst ws) ∧ (∀ y ∈ ws, Sim H y) ∧ ws.countP (isTx sMore) = 0 ∧ ws.length ≤ 10000
  | _, _, .nil, _, m => nomatch m
  | _, _, .txt h, q, m => Fnd.get h q m
  | _, _, .pair _ h, q, m => Fnd.get h q m
  | _, _, .own _ e2 e3 e4 e5 _ h, q, m => (List.mem_cons.mp m).elim (fun z => z ▸ ⟨_, e2, e3, e4, e5⟩) (Fnd.get h q)
/-! ### tables of bounds -/
def oD : Option Nat → PyData
  | none => .none
  | some n => .int (n : Nat)
def enD (e : Nat × List (Option Nat)) : PyData := .tuple [.int (e.1 : Nat), .list (e.2.map oD)]
theorem daO {K : PySem.W.Frag} {H : Hp} : ∀ cs : List (Option Nat), DaL K H (cs.map oV) (cs.map oD)
  | [] => .nil
  | none :: r => .cons .non (daO r)
  | some n :: r => .cons (.int _) (daO r)
theorem simO {H : Hp} {cs : List (Option Nat)} : ∀ y ∈ cs.map oV, Sim H y := fun y hy => by
  obtain ⟨o, _, rfl⟩ := List.mem_map.mp hy
  cases o with
  | none => exact .non
  | some n => exact .int _
theorem cntO (cs : List (Option Nat)) : (cs.map oV).countP (isTx sMore) = 0 := List.countP_eq_zero.mpr fun y hy => by
  obtain ⟨o, _, rfl⟩ := List.mem_map.mp hy
  cases o <;> exact Bool.false_ne_true
inductive BnF (H0 : Hp) (F : Addr) (H : Hp) : List V → List (Nat × List (Option Nat)) → List Addr → Prop
  | nil : BnF H0 F H [] [] []
  | snoc {us : List V} {l : List (Nat × List (Option Nat))} {qs : List Addr} {t c : Addr} {s : Nat} {cs : List (Option Nat)} : BnF H0 F H us l qs → H t = some (.tup [.int (s : Nat), .ref c]) → H c = some (.lst (cs.map oV)) → t ≠ F → c ≠ F → H0 c = none → c ∉ qs → cs.length ≤ 90 →
      BnF H0 F H (us ++ [.ref t]) (l ++ [(s, cs)]) (qs ++ [c])
section
variable {H0 H H' : Hp} {F : Addr} {us : List V} {l : List (Nat × List (Option Nat))} {qs : List Addr}
theorem BnF.len (h : BnF H0 F H us l qs) : us.length = l.length := by
  induction h with
  | nil => rfl
  | snoc _ _ _ _ _ _ _ _ ih => rw [List.length_append, List.length_append, ih]; rfl
theorem BnF.imp (k : ∀ b o, b ≠ F → H b = some o → H' b = some o) (h : BnF H0 F H us l qs) : BnF H0 F H' us l qs := by
  induction h with
  | nil => exact .nil
  | snoc _ h1 h2 h3 h4 h5 h6 h7 ih => exact .snoc ih (k _ _ h3 h1) (k _ _ h4 h2) h3 h4 h5 h6 h7
theorem BnF.mem (h : BnF H0 F H us l qs) : ∀ q ∈ qs, H0 q = none ∧ ∃ o, H q = some o := by
  induction h with
  | nil => exact fun q hq => nomatch hq
  | snoc _ h1 h2 h3 h4 h5 h6 _ ih =>
    intro q hq
    rcases List.mem_append.mp hq with z | z
    · exact ih q z
    · obtain rfl := List.mem_singleton.mp z
      exact ⟨h5, _, h2⟩
theorem BnF.notF (h : BnF H0 F H us l qs) : F ∉ qs := by
  induction h with
  | nil => exact List.not_mem_nil
  | snoc _ _ _ _ h4 _ _ _ ih => exact fun m => (List.mem_append.mp m).elim ih fun z => h4 (List.mem_singleton.mp z).symm
theorem BnF.first (h : BnF H0 F H us l qs) : us = [] ∨ ∃ (t c : Addr) (s0 : Nat) (cs0 : List (Option Nat)) (r : List V), us = .ref t :: r ∧ H t = some (.tup [.int (s0 : Nat), .ref c]) ∧ H c = some (.lst (cs0.map oV)) ∧ (s0, cs0) ∈ l := by
  induction h with
  | nil => exact .inl rfl
  | snoc _ h1 h2 h3 h4 h5 h6 _ ih =>
    refine .inr ?_
    rcases ih with rfl | ⟨t, c, s0, cs0, r, rfl, e1, e2, e3⟩
    · exact ⟨_, _, _, _, [], rfl, h1, h2, List.mem_append_right _ (List.mem_singleton.mpr rfl)⟩
    · exact ⟨t, c, s0, cs0, r ++ [_], rfl, e1, e2, List.mem_append_left _ e3⟩
theorem BnF.fnd (h : BnF H0 F H us l qs) : Fnd H us qs := by
  induction h with
  | nil => exact .nil
  | @snoc us l qs t c s cs _ h1 h2 h3 h4 h5 h6 h7 ih =>
    refine Fnd.snoc (.own h1 h2 simO (cntO _) (by rw [List.length_map]; omega) List.not_mem_nil .nil) ih fun q hq z => ?_
    obtain rfl := List.mem_singleton.mp z
    exact h6 hq
theorem BnF.da {K : PySem.W.Frag} (h : BnF H0 F H us l qs) : DaL K H us (l.map enD) := by
  induction h with
  | nil => exact .nil
  | snoc _ h1 h2 h3 h4 h5 h6 _ ih =>
    rw [List.map_append]
    exact ih.append (.cons (.tup (SqT.of h1) (.cons (.int _) (.cons (.lst h2 (daO _)) .nil))) .nil)
end
theorem bnF_stands (H0 : Hp) : Stands (fun F H us l => ∃ qs, BnF H0 F H us l qs) :=
  ⟨⟨[], .nil⟩, fun ⟨_, h⟩ => h.len, fun s ⟨qs, h⟩ => ⟨qs, h.imp fun b o _ e => s _ _ e⟩, fun ⟨qs, h⟩ => ⟨qs, h.imp fun b o n e => by rw [upd_ne n]; exact e⟩⟩
theorem bo_len {l : List (Nat × List (Option Nat))} {m : Nat} (ho : ∀ e ∈ l, EnOk e ∧ e.2.length = m) (hl : l.length ≤ 7000) (m10 : m ≤ 10) : (boText l).length ≤ 16000000 := by
  have h1 := join_len ("\n" : Str) (jW [sBnd, nw l.length] :: l.map enLine)
  have hn : l.length < 1000000000000000000000000000000 := by omega
  have ln := (nw_tx hn).len
  have h5 : ∀ x ∈ ((jW [sBnd, nw l.length] :: l.map enLine).map fun x => x.length), x ≤ 451 := fun x hx => by
    obtain ⟨z, hz, rfl⟩ := List.mem_map.mp hx
    rcases List.mem_cons.mp hz with rfl | hz
    · rw [join_two, app_len, app_len, show sBnd.length = 6 by decide +kernel, show (" " : Str).length = 1 by decide +kernel]
      omega
    · obtain ⟨e, he, rfl⟩ := List.mem_map.mp hz
      exact en_len (ho e he).1 (ho e he).2 m10
  have h6 := sum_le h5
  rw [List.length_map, List.length_cons, List.length_map] at h6
  rw [List.length_cons, List.length_map, show ("\n" : Str).length = 1 by decide +kernel] at h1
  have h7 : (boText l).length = (Str.join ("\n" : Str) (jW [sBnd, nw l.length] :: l.map enLine)).length := by
    show (PySem.Txt.join ("\n" : Str) _).length = _
    rw [join_str]
  omega
def spReadB (K : PySem.W.Frag) : Sp := fun vs H Q _ => ∃ (l : List (Nat × List (Option Nat))) (m : Nat), vs = [.str (boText l)] ∧ (∀ e ∈ l, EnOk e ∧ e.2.length = m) ∧ l.length ≤ 7000 ∧ m ≤ 10 ∧
  ∀ D H' us qs, Same H H' → H D = none → H' D = some (.lst us) → Fnd H' us qs → D ∉ qs → (∀ q ∈ qs, H q = none) → DaL K H' us (l.map enD) → Q (.ref D) H'
section
variable {P : Program} {w : World} {K : PySem.W.Frag} {mg : Str → Option Value} {base : Heap}
abbrev sread_bounds : Stmt := top 51
theorem scread_bounds : FnScope ["text", "lines"] ["text"] (defScope sread_bounds) := ⟨rfl, rfl, rfl, by decide +kernel, rfl, by decide +kernel, by decide +kernel⟩
theorem ok_readb {f f1 f2 f3 f4 : Addr} {fd fd1 fd2 fd3 fd4 : FuncData} (F : Fun K "read_bounds" "read_bounds" sread_bounds f fd) (T : Txt K mg base)
    (D_lines_of : Df P w K mg base CX0 1 "lines_of" f1 fd1 ["text"] spLines) (D_header_count : Df P w K mg base CX0 3 "header_count" f2 fd2 ["lines", "kind"] spHead)
    (D_bounds_row : Df P w K mg base CX0 4 "bounds_row" f3 fd3 ["words", "before"] spBRow)
    (D_read_rows : ∀ H0 : Hp, Df P w K mg base CX0 6 "read_rows" f4 fd4 ["lines", "many", "read"] (spRows f3 (fun _ => True) (fun vs H Q => spBRow vs H Q E0) (fun e : Nat × List (Option Nat) => nw e.1 :: e.2.map oW) (fun F H us l => ∃ qs, BnF H0 F H us l qs))) :
    FnG P w K mg base CX0 7 f fd ["text"] (spReadB K) := by
  refine okG F scread_bounds (fun vs H Q E h => ?_) (fun cdv A outer s H vs Q E hc hr h => ?_)
  · obtain ⟨l, m, rfl, _⟩ := h
    rfl
  obtain ⟨l, m, rfl, ho, hl, m10, q⟩ := h
  have D_read_rows := D_read_rows H
  refine ⟨_, (pss_cons (ps_set (i := 1) scread_bounds.nd rfl (Or.inl rfl) (pe_d D_lines_of hc (hr.mono (by omega)) (by rfl) (fun _ => passN) (pa_cons (pv 0) pa_nil)))
 (pss_one (ps_ret (pe_d D_read_rows hc (hr.mono (by omega)) (by rfl) (fun _ => passN) (pa_cons (pv 1) (pa_cons (pe_d D_header_count hc (hr.mono (by omega)) (by rfl) (fun _ => passN) (pa_cons (pv 1) (pa_cons pe_str pa_nil))) (pa_cons (pe_k (by rfl) (defK D_bounds_row)) pa_nil))))))), ?_⟩
  have hn : l.length < 1000000000000000000000000000000 := by omega
  refine ⟨_, rfl, jW [sBnd, nw l.length] :: l.map enLine, rfl, List.cons_ne_nil _ _, fun x hx => ?_, bo_len ho hl m10, fun L hL => ?_⟩
  · rcases List.mem_cons.mp hx with rfl | hx
    · refine line_no fun x hx => ?_
      rcases List.mem_cons.mp hx with rfl | hx
      · exact wd_bnd
      · obtain rfl := List.mem_singleton.mp hx
        exact wd_nw hn
    · obtain ⟨e, he, rfl⟩ := List.mem_map.mp hx
      exact line_no (en_wd (ho e he).1)
  have s1 : Same H (upd H L (.lst ((jW [sBnd, nw l.length] :: l.map enLine).map V.str))) := upd_new hL
  refine ⟨_, rfl, _, rfl, L, sBnd, l.length, l.map enLine, rfl, upd_same, wd_bnd, hn, fun H1 s2 => ?_⟩
  refine ⟨L, jW [sBnd, nw l.length], l, rfl, s2 _ _ upd_same, fun e he => ⟨List.cons_ne_nil _ _, en_wd (ho e he).1, ?_⟩, hl, fun _ _ => trivial, ?_, ?_⟩
  · have h90 : e.2.length ≤ 90 := (ho e he).1.2.2
    rw [List.length_cons, List.length_map]
    omega
  · intro i e Fa W us H2 Q2 hi s3 hF0 hF ⟨qs, b⟩ hW k
    have he := ho e (List.mem_of_getElem? hi)
    refine ⟨W, Fa, us, e.1, e.2, rfl, hW, he.1, hF, ?_, fun t c H3 s4 ht hc h3 h4 => ?_⟩
    · rcases b.first with z | ⟨t, c, s0, cs0, r, e1, e2, e3, e4⟩
      · exact .inl z
      · refine .inr ⟨t, c, s0, cs0, r, e1, e2, e3, ?_⟩
        have e5 : cs0.length = m := (ho (s0, cs0) (List.mem_of_mem_take e4)).2
        rw [e5]
        exact he.2.symm
    · have ne : ∀ {b : Addr}, H2 b = none → b ≠ Fa := fun {b} n z => by rw [z, hF] at n; exact nomatch n
      refine k (.ref t) H3 s4 (fun z => nomatch z) ⟨qs ++ [c], .snoc (b.imp fun b o _ e => s4 _ _ e) h3 h4 (ne ht) (ne hc) (none_of (s1.trans (s2.trans s3)) hc) (fun m => ?_) he.1.2.2⟩
      obtain ⟨_, o, e⟩ := b.mem c m
      rw [hc] at e
      exact nomatch e
  · intro D H3 us s3 hD hD3 ⟨qs, b⟩
    exact q D H3 us qs (s1.trans (s2.trans s3)) (none_of (s1.trans s2) hD) hD3 b.fnd b.notF (fun q hq => (b.mem q hq).1) b.da
end
end KW

namespace KW
open PySem L2 Gd Zn KM KP LamX
/-! ### pairs read: the rows by a lambda -/
inductive PrF (F : Addr) (H : Hp) : List V → List (Str × Str) → Prop
  | nil : PrF F H [] []
  | snoc {us : List V} {l : List (Str × Str)} {t : Addr} {x y : Str} : PrF F H us l → H t = some (.tup [.str x, .str y]) → t ≠ F → PrF F H (us ++ [.ref t]) (l ++ [(x, y)])
def prD (p : Str × Str) : PyData := .tuple [.str p.1, .str p.2]
section
variable {H H' : Hp} {F : Addr} {us : List V} {l : List (Str × Str)}
theorem PrF.len (h : PrF F H us l) : us.length = l.length := by
  induction h with
  | nil => rfl
  | snoc _ _ _ ih => rw [List.length_append, List.length_append, ih]; rfl
theorem PrF.imp (k : ∀ b o, b ≠ F → H b = some o → H' b = some o) (h : PrF F H us l) : PrF F H' us l := by
  induction h with
  | nil => exact .nil
  | snoc _ h1 h2 ih => exact .snoc ih (k _ _ h2 h1) h2
theorem PrF.fnd (h : PrF F H us l) : Fnd H us [] := by
  induction h with
  | nil => exact .nil
  | snoc _ h1 _ ih => exact Fnd.snoc (.pair h1 .nil) ih fun q hq => nomatch hq
theorem PrF.da {K : PySem.W.Frag} (h : PrF F H us l) : DaL K H us (l.map prD) := by
  induction h with
  | nil => exact .nil
  | snoc _ h1 _ ih =>
    rw [List.map_append]
    exact ih.append (.cons (.tup (SqT.of h1) (.cons (.str _) (.cons (.str _) .nil))) .nil)
end
theorem prF_stands : Stands PrF :=
  ⟨.nil, fun h => h.len, fun s h => h.imp fun b o _ e => s _ _ e, fun h => h.imp fun b o n e => by rw [upd_ne n]; exact e⟩
theorem sc_len {l : List (Str × Str)} (ho : ∀ q ∈ l, PrOk q.1 q.2) (hl : l.length ≤ 3500) : (scText l).length ≤ 16000000 := by
  have h1 := join_len ("\n" : Str) (jW [sScr, nw l.length] :: l.map scLine)
  have h2 : ∀ x ∈ ((jW [sScr, nw l.length] :: l.map scLine).map fun x => x.length), x ≤ 4100 := fun x hx => by
    obtain ⟨z, hz, rfl⟩ := List.mem_map.mp hx
    rcases List.mem_cons.mp hz with rfl | hz
    · exact (line_len (head_wd wd_scr (by omega)) (show 2 ≤ 100 by decide)).len
    · obtain ⟨q, hq, rfl⟩ := List.mem_map.mp hz
      exact (scLine_tx (ho q hq)).len
  have h3 := sum_le h2
  rw [List.length_map, List.length_cons, List.length_map] at h3
  rw [List.length_cons, List.length_map, show ("\n" : Str).length = 1 by decide +kernel] at h1
  have h7 : (scText l).length = (Str.join ("\n" : Str) (jW [sScr, nw l.length] :: l.map scLine)).length := by
    show (PySem.Txt.join ("\n" : Str) _).length = _
    rw [join_str]
  omega
def noE : Expr := .Name "" ⟨0, 0, 0, 0⟩
def lArgs : Expr → Arguments
  | .Lambda a _ _ _ => a
  | _ => { posonlyargs := [], args := [], vararg := none, kwonlyargs := [], kw_defaults := [], kwarg := none, defaults := [] }
def lBody : Expr → Expr
  | .Lambda _ b _ _ => b
  | _ => noE
def lScope : Expr → Scope
  | .Lambda _ _ s _ => s
  | _ => { kind := .function, names := [], isGenerator := false, isCoroutine := false }
abbrev qL : Str := "read_script.<locals>.<lambda>"
/-- pair_row by that lambda -/
def spRowL : List V → Hp → VK → Prop := fun vs H Q => ∃ (W F : Addr) (x y : Str), vs = [.ref W, .ref F] ∧ H W = some (.lst [.str (swd x), .str (swd y)]) ∧ PrOk x y ∧ ∀ a H', Same H H' → H a = none → H' a = some (.tup [.str x, .str y]) → Q (.ref a) H'
def spReadS (K : PySem.W.Frag) (Pt : Addr) : Sp := fun vs H Q _ => ∃ l : List (Str × Str), vs = [.str (scText l)] ∧ (∀ q ∈ l, PrOk q.1 q.2) ∧ l.length ≤ 3500 ∧ TabS H Pt qL ∧
  ∀ D H' us, ExtN H H' → TabS H' Pt qL → H D = none → H' D = some (.lst us) → Fnd H' us [] → DaL K H' us (l.map prD) → Q (.ref D) H'
section
variable {P : Program} {w : World} {K : PySem.W.Frag} {mg : Str → Option Value} {base : Heap}
abbrev sread_script : Stmt := top 42
theorem scread_script : FnScope ["text", "lines"] ["text"] (defScope sread_script) := ⟨rfl, rfl, rfl, by decide +kernel, rfl, by decide +kernel, by decide +kernel⟩
abbrev eLam : Expr := match defBody sread_script with
  | [_, .Return (some (.Call _ [_, _, e] _ _)) _] => e
  | _ => noE
theorem scLam : FnScope ["words", "before"] ["words", "before"] (lScope eLam) := ⟨rfl, rfl, rfl, by decide +kernel, rfl, by decide +kernel, by decide +kernel⟩
theorem cal_row {f c' f1 : Addr} {fd1 : FuncData} (D_pair_row : Df P w K mg base CX0 4 "pair_row" f1 fd1 ["words"] spPairRow) :
    Cal P w K mg base 5 (fun H => H f = some (LamO f c' qL (lArgs eLam) (lBody eLam) (lScope eLam)) ∧ H c' = some (CodeO c' qL)) f spRowL := by
  refine Cal.lam scLam (fun pm ctv us hl => match us, hl with | [_, _], _ => rfl) (fun vs H Q h => ?_) (fun A outer s H vs Q hc hr h => ?_)
  · obtain ⟨W, F, x, y, rfl, _⟩ := h
    rfl
  obtain ⟨W, F, x, y, rfl, hW, ok, q⟩ := h
  refine ⟨_, pe_d D_pair_row hc (hr.mono (by omega)) (by rfl) (fun _ => passN) (pa_cons (pv 0) pa_nil), ?_⟩
  exact ⟨_, rfl, W, x, y, rfl, hW, ok.1, ok.2.1, ok.2.2, q⟩
theorem FnG.ex {CX : CXT} {k : Nat} {f : Addr} {fd : FuncData} {ps : List Str} {ι : Type} {sp : ι → Sp} (h : ∀ i, FnG P w K mg base CX k f fd ps (sp i)) : FnG P w K mg base CX k f fd ps (fun vs H Q E => ∃ i, sp i vs H Q E) :=
  ⟨fun vs H Q E ⟨i, z⟩ => (h i).len vs H Q E z, fun A outer s H args us vs Q E hc hr e0 hb r ⟨i, z⟩ => (h i).run A outer s H args us vs Q E hc hr e0 hb r z⟩
theorem ok_reads {f f1 f2 f4 c Pt : Addr} {fd fd1 fd2 fd4 : FuncData} (F : Fun K "read_script" "read_script" sread_script f fd) (T : Txt K mg base) (TB : TabB base mg c Pt) (hcode : fd.code = .ref c)
    (D_lines_of : Df P w K mg base CX0 1 "lines_of" f1 fd1 ["text"] spLines) (D_header_count : Df P w K mg base CX0 3 "header_count" f2 fd2 ["lines", "kind"] spHead)
    (D_read_rows : Df P w K mg base CX0 6 "read_rows" f4 fd4 ["lines", "many", "read"] (fun vs H Q E => ∃ i : Addr × Addr, spRows i.1 (fun H => H i.1 = some (LamO i.1 i.2 qL (lArgs eLam) (lBody eLam) (lScope eLam)) ∧ H i.2 = some (CodeO i.2 qL)) spRowL (fun p : Str × Str => [swd p.1, swd p.2]) PrF vs H Q E)) :
    FnG P w K mg base CX0 7 f fd ["text"] (spReadS K Pt) := by
  refine okGc F scread_script (fun vs H Q E h => ?_) hcode (fun A outer s H vs Q E hc hr h => ?_)
  · obtain ⟨l, rfl, _⟩ := h
    rfl
  obtain ⟨l, rfl, ho, hl, ht, q⟩ := h
  refine ⟨_, (pss_cons (ps_set (i := 1) scread_script.nd rfl (Or.inl rfl) (pe_d D_lines_of hc (hr.mono (by omega)) (by rfl) (fun _ => passN) (pa_cons (pv 0) pa_nil)))
 (pss_one (ps_ret (pe_d D_read_rows hc (hr.mono (by omega)) (by rfl) (fun _ => passN) (pa_cons (pv 1) (pa_cons (pe_d D_header_count hc (hr.mono (by omega)) (by rfl) (fun _ => passN) (pa_cons (pv 1) (pa_cons pe_str pa_nil))) (pa_cons (pe_lam (q := qL) TB (by rfl) (by rfl)) pa_nil))))))), ?_⟩
  have hn : l.length < 1000000000000000000000000000000 := by omega
  refine ⟨_, rfl, jW [sScr, nw l.length] :: l.map scLine, rfl, List.cons_ne_nil _ _, fun x hx => ?_, sc_len ho hl, fun L hL => ?_⟩
  · rcases List.mem_cons.mp hx with rfl | hx
    · exact line_no (head_wd wd_scr (by omega))
    · obtain ⟨e, he, rfl⟩ := List.mem_map.mp hx
      refine line_no fun x hx => ?_
      have := ho e he
      rcases List.mem_cons.mp hx with rfl | hx
      · exact wd_swd this.1
      · obtain rfl := List.mem_singleton.mp hx
        exact wd_swd this.2.1
  have s1 : Same H (upd H L (.lst ((jW [sScr, nw l.length] :: l.map scLine).map V.str))) := upd_new hL
  refine ⟨_, rfl, _, rfl, L, sScr, l.length, l.map scLine, rfl, upd_same, wd_scr, hn, fun H1 s2 => ?_⟩
  refine ⟨ht.ext (s1.trans s2), fun g c' H2 s3 n3 t3 hg hg2 hc2 => ?_⟩
  have hL2 : H2 L = some (.lst ((jW [sScr, nw l.length] :: l.map scLine).map V.str)) := s3 _ _ (s2 _ _ upd_same) (fun ps z => nomatch z)
  refine ⟨(g, c'), L, jW [sScr, nw l.length], l, rfl, hL2, fun e he => ⟨List.cons_ne_nil _ _, fun x hx => ?_, (show 2 ≤ 100 by decide)⟩, by omega, fun H3 s4 => ⟨s4 _ _ hg2, s4 _ _ hc2⟩, ?_, ?_⟩
  · have := ho e he
    rcases List.mem_cons.mp hx with rfl | hx
    · exact wd_swd this.1
    · obtain rfl := List.mem_singleton.mp hx
      exact wd_swd this.2.1
  · intro i e Fa W us H3 Q2 hi s4 hF0 hF b hW k
    refine ⟨W, Fa, e.1, e.2, rfl, hW, ho e (List.mem_of_getElem? hi), fun a H4 s5 ha h4 => ?_⟩
    exact k (.ref a) H4 s5 (fun z => nomatch z) (.snoc (b.imp fun b o _ e => s5 _ _ e) h4 (fun z => by rw [z, hF] at ha; exact nomatch ha))
  · intro D H3 us s4 hD hD3 b
    refine q D H3 us ((ExtN.of (s1.trans s2)).trans (s3.trans (ExtN.of s4))) (t3.ext s4) ?_ hD3 b.fnd b.da
    exact none_of (s1.trans s2) (n3 _ hD)
end
end KW

namespace KW
open PySem L2 Gd Zn KM KP LamX
/-! ### written and read, by any two of them -/
section
variable {K : PySem.W.Frag} {H H1 : Hp}
theorem ext_tup (e : ExtN H H1) {a : Addr} {xs : List V} (h : SqT K H a xs) : SqT K H1 a xs := by
  rcases h with (h | ⟨o, h⟩) | h
  · exact .inl (.inl (e _ _ h (fun ps z => nomatch z)))
  · exact .inl (.inr ⟨o, e _ _ h (fun ps z => nomatch z)⟩)
  · exact .inr h
mutual
theorem da_ext (e : ExtN H H1) : ∀ {v : V} {d : PyData}, Da K H v d → Da K H1 v d
  | _, _, .non => .non
  | _, _, .bl b => .bl b
  | _, _, .int i => .int i
  | _, _, .str x => .str x
  | _, _, .lst h r => .lst (e _ _ h (fun ps z => nomatch z)) (daL_ext e r)
  | _, _, .tup h r => .tup (ext_tup e h) (daL_ext e r)
  | _, _, .dct h r => .dct (e _ _ h (fun ps z => nomatch z)) (daL_ext e r)
theorem daL_ext (e : ExtN H H1) : ∀ {vs : List V} {ds : List PyData}, DaL K H vs ds → DaL K H1 vs ds
  | _, _, .nil => .nil
  | _, _, .cons h r => .cons (da_ext e h) (daL_ext e r)
end
theorem ext_put {q : Addr} {o : HO} (e : ExtN H H1) (h : H q = none) : ExtN H (upd H1 q o) := fun b u hb n => by
  rw [upd_ne (ne_of_none hb h)]
  exact e b u hb n
theorem tab_put {P q : Addr} {x : Str} {ys zs : List V} (t : TabS H P x) (h : H q = some (.lst ys)) : TabS (upd H q (.lst zs)) P x := by
  obtain ⟨ps, h1, h2, h3⟩ := t
  refine ⟨ps, by rw [upd_ne (fun z => by rw [z, h] at h1; exact nomatch h1)]; exact h1, h2, fun pos cv hc => ?_⟩
  obtain ⟨c, e1, e2⟩ := h3 pos cv hc
  refine ⟨c, e1, by rw [upd_ne (fun z => by rw [z, h] at e2; exact nomatch (show HO.lst ys = CodeO q x from Option.some.inj e2))]; exact e2⟩
end
theorem inst_tup {H : Hp} {a : Addr} {xs : List V} (h : H a = some (.tup xs)) : inst "tuple" (kind H (.ref a)) = true := by
  have e : kind H (.ref a) = .tup := by
    show kindO (H a) = .tup
    rw [h]
    rfl
  rw [e]
  rfl
theorem inst_lst {H : Hp} {a : Addr} {xs : List V} (h : H a = some (.lst xs)) : inst "list" (kind H (.ref a)) = true := by
  have e : kind H (.ref a) = .lst := by
    show kindO (H a) = .lst
    rw [h]
    rfl
  rw [e]
  rfl
theorem kind_lst {H : Hp} {a : Addr} {xs : List V} (h : H a = some (.lst xs)) : Pv H (.ref a) := by
  have e : kind H (.ref a) = .lst := by
    show kindO (H a) = .lst
    rw [h]
    rfl
  unfold Pv
  rw [e]
  exact (fun z => nomatch z)
theorem Fnd.le {H : Hp} : ∀ {us : List V} {qs : List Addr}, Fnd H us qs → qs.length ≤ us.length
  | _, _, .nil => Nat.le_refl _
  | _, _, .txt h => Nat.le_succ_of_le (Fnd.le h)
  | _, _, .pair _ h => Nat.le_succ_of_le (Fnd.le h)
  | _, _, .own _ _ _ _ _ _ h => Nat.succ_le_succ (Fnd.le h)
/-- the own lists, the first i of them with one word more -/
structure Mrk (H4 : Hp) (qs : List Addr) (i : Nat) (H : Hp) : Prop where
  keep : ∀ b o, b ∉ qs → H4 b = some o → H b = some o
  at_ : ∀ (k : Nat) q, qs[k]? = some q → ∃ ws, H q = some (.lst ws) ∧ (∀ y ∈ ws, Sim H4 y) ∧ ws.countP (isTx sMore) = (if k < i then 1 else 0) ∧ ws.length ≤ 10000 + (if k < i then 1 else 0)
theorem Mrk.sim {H4 H : Hp} {qs : List Addr} {i : Nat} (m : Mrk H4 qs i H) (ls : ∀ q ∈ qs, ∃ ws, H4 q = some (.lst ws)) {y : V} (h : Sim H4 y) : Sim H y := by
  cases h with
  | non => exact .non
  | int i => exact .int i
  | str x => exact .str x
  | @tup a xs e =>
    refine .tup (m.keep _ _ (fun z => ?_) e)
    obtain ⟨ws, h⟩ := ls a z
    rw [e] at h
    exact nomatch h
theorem Mrk.step {H4 H : Hp} {qs : List Addr} {i : Nat} {q : Addr} (m : Mrk H4 qs i H) (nd : qs.Nodup) (hq : qs[i]? = some q) (ls : ∀ q ∈ qs, ∃ ws, H4 q = some (.lst ws)) :
    ∃ ws, H q = some (.lst ws) ∧ ws.length ≤ 10000 ∧ Mrk H4 qs (i + 1) (upd H q (.lst (ws ++ [.str sMore]))) := by
  obtain ⟨ws, h1, h2, h3, h4⟩ := m.at_ i q hq
  rw [if_neg (Nat.lt_irrefl i)] at h3 h4
  refine ⟨ws, h1, h4, fun b o nb e => ?_, fun k r hr => ?_⟩
  · rw [upd_ne (fun z => nb (by rw [z]; exact List.mem_of_getElem? hq))]
    exact m.keep b o nb e
  · by_cases z : r = q
    · subst z
      have ki : k = i := (List.getElem?_inj (List.getElem?_eq_some_iff.mp hr).1 nd).mp (hr.trans hq.symm)
      subst ki
      refine ⟨ws ++ [.str sMore], upd_same, fun y hy => ?_, ?_, ?_⟩
      · rcases List.mem_append.mp hy with hy | hy
        · exact h2 y hy
        · rw [List.mem_singleton.mp hy]
          exact .str _
      · rw [List.countP_append, h3, if_pos (Nat.lt_succ_self k)]
        rfl
      · rw [List.length_append, if_pos (Nat.lt_succ_self k)]
        exact Nat.succ_le_succ h4
    · obtain ⟨vs, e1, e2, e3, e4⟩ := m.at_ k r hr
      have ki : k ≠ i := fun e => z (Option.some.inj (hr.symm.trans (e ▸ hq)))
      have e : (k < i + 1) = (k < i) := propext ⟨fun x => by omega, fun x => by omega⟩
      refine ⟨vs, by rw [upd_ne z]; exact e1, e2, ?_, ?_⟩
      · simp only [e]
        exact e3
      · simp only [e]
        exact e4
structure Okd (d : PyData) : Prop where
  ok : Ok1 d
  wd : wid d ≤ 16000000
  dp : d.depth ≤ 60
theorem okd_str {n : Nat} {x : Str} (h : Tx n x) (hn : n ≤ 1000000) : Okd (.str x) := by
  have := h.len
  refine ⟨h.big, ?_, (by show 0 ≤ 60; decide)⟩
  show 10 * x.length + 2 ≤ 16000000
  omega
theorem Okd.wd2 {d : PyData} (h : Okd d) : wid d ≤ sizeLine := by
  have := h.wd
  have := sizeLine_eq
  omega
theorem Okd.dp2 {d : PyData} (h : Okd d) : d.depth ≤ 64 := Nat.le_trans h.dp (by decide)
theorem selfEq (x : Str) : decide (V.str x = V.str x) = true := decide_eq_true rfl
def spBoth (K : PySem.W.Frag) (Pt fw fr : Addr) (spW spR : List V → Hp → VK → Prop) : Sp := fun vs H Q _ => ∃ (v v2 : V) (due : Str) (d d2 : PyData), vs = [.ref fw, .ref fr, v, v2, .str due] ∧ Da K H v d ∧ Da K H v2 d2 ∧ Okd d ∧ Okd d2 ∧ Tx 1000000 due ∧ TabS H Pt qL ∧
  (∀ x, x = v ∨ x = v2 → ∀ H1 Q, ExtN H H1 → (∀ H2, Same H1 H2 → Q (.str due) H2) → spW [x] H1 Q) ∧
  (∀ H1 Q, ExtN H H1 → TabS H1 Pt qL → (∀ D H2 us qs, ExtN H1 H2 → TabS H2 Pt qL → H1 D = none → H2 D = some (.lst us) → Fnd H2 us qs → us.length ≤ 10000 → D ∉ qs → (∀ q ∈ qs, H1 q = none) → Da K H2 (.ref D) d → Q (.ref D) H2) → spR [.str due] H1 Q) ∧
  ∀ H', ExtN H H' → TabS H' Pt qL → Q (.bl true) H'
section
variable {P : Program} {w : World} {K : PySem.W.Frag} {mg : Str → Option Value} {base : Heap}
abbrev s_law_both : Stmt := top 63
theorem sc_law_both : FnScope ["_law_write", "_law_read", "_law_value", "_law_same", "_law_due", "_law_some", "_law_kept", "_law_turn", "_law_found", "_law_lists", "_law_one", "_law_item"] ["_law_write", "_law_read", "_law_value", "_law_same", "_law_due"] (defScope s_law_both) := ⟨rfl, rfl, rfl, by decide +kernel, rfl, by decide +kernel, by decide +kernel⟩
theorem ok_both {f fw fr Pt : Addr} {fd : FuncData} {spW spR : List V → Hp → VK → Prop} (F : Fun K "_law_both" "_law_both" s_law_both f fd) (T : Txt K mg base) (CW : Cal P w K mg base 150 (fun _ => True) fw spW) (CR : Cal P w K mg base 150 (fun _ => True) fr spR) :
    FnG P w K mg base CX0 151 f fd ["_law_write", "_law_read", "_law_value", "_law_same", "_law_due"] (spBoth K Pt fw fr spW spR) := by
  refine okG F sc_law_both (fun vs H Q E h => ?_) (fun cdv A outer s H vs Q E hc hr h => ?_)
  · obtain ⟨v, v2, due, d, d2, rfl, _⟩ := h
    rfl
  obtain ⟨v, v2, due, d, d2, rfl, hv, hv2, od, od2, td, tb, hw, hrd, q⟩ := h
  refine ⟨_, (pss_cons (ps_for (passes_of rfl) rfl (pi_list (pe_lst (pa_cons (pv 2) (pa_cons (pv 3) (pa_cons (pv 2) pa_nil))))) (pg_name (i := 5) sc_law_both.nd rfl (Or.inl rfl))
  (pss_cons (ps_set (i := 6) sc_law_both.nd rfl (Or.inl rfl) (pe_callB (call_repr hc T.sys (room100 hr)) (by rfl) T.z_repr (by decide +kernel) (pa_cons (pv 5) pa_nil)))
 (pss_one (ps_if (PW.pt (pw_or (pt_cmpR op_ne (pe_callB (call_repr hc T.sys (room100 hr)) (by rfl) T.z_repr (by decide +kernel) (pa_cons (pe_callC (i := 0) CW hc (hr.mono (by omega)) rfl (.inl rfl) pass0 (pa_cons (pv 5) pa_nil)) pa_nil)) (pe_callB (call_repr hc T.sys (room100 hr)) (by rfl) T.z_repr (by decide +kernel) (pa_cons (pv 4) pa_nil)) (nomark _)) (pw_or1 (pt_cmpR op_ne (pe_callB (call_repr hc T.sys (room100 hr)) (by rfl) T.z_repr (by decide +kernel) (pa_cons (pv 5) pa_nil)) (pv 6) (nomark _)))))
  (pss_one (ps_ret pe_bl)) pss_nil))))
 (pss_cons (ps_for (passes_of rfl) rfl (pi_range1 rfl T.z_range (pa_cons pe_int pa_nil)) (pg_name (i := 7) sc_law_both.nd rfl (Or.inl rfl))
  (pss_cons (ps_set (i := 8) sc_law_both.nd rfl (Or.inl rfl) (pe_callC (i := 1) CR hc (hr.mono (by omega)) rfl (.inl rfl) pass0 (pa_cons (pv 4) pa_nil)))
 (pss_cons (ps_if (pt_cmpR op_ne (pe_callB (call_repr hc T.sys (room100 hr)) (by rfl) T.z_repr (by decide +kernel) (pa_cons (pv 8) pa_nil)) (pe_callB (call_repr hc T.sys (room100 hr)) (by rfl) T.z_repr (by decide +kernel) (pa_cons (pv 2) pa_nil)) (nomark _))
  (pss_one (ps_ret pe_bl)) pss_nil)
 (pss_cons (ps_setLc (i := 9) (own := [("_law_item", 11)]) (g := gName 11) rfl sc_law_both.nd rfl rfl (sw_true rfl rfl rfl (by decide +kernel)) (pi_list (pv 8)) (blkOk_by (N := ["_law_write", "_law_read", "_law_value", "_law_same", "_law_due", "_law_some", "_law_kept", "_law_turn", "_law_found", "_law_lists", "_law_one", "_law_item"]) (sc := defScope s_law_both) (by decide +kernel)) (fun _ _ _ _ _ => pg_name (i := 11) sc_law_both.nd rfl (Or.inl rfl)) (fun _ _ _ _ _ => (pts_one (PW.pt (pw_and (pt_val (pe_callB call_isk (by rfl) T.z_isinstance (by decide +kernel) (pa_cons (pv 11) (pa_cons (pe_bltn (v := .ty "tuple") (by rfl) T.z_tuple (by decide +kernel) rfl) pa_nil)))) (pw_and1 (pt_val (pe_callB call_isk (by rfl) T.z_isinstance (by decide +kernel) (pa_cons (pe_ix (ix_tupK (K := K) rfl) (pv 11) pe_int (fun _ _ => rfl)) (pa_cons (pe_bltn (v := .ty "list") (by rfl) T.z_list (by decide +kernel) rfl) pa_nil))))))))) (fun _ _ _ _ _ => (pe_ix (ix_tupK (K := K) rfl) (pv 11) pe_int (fun _ _ => rfl))))
 (pss_cons (ps_for (passes_of rfl) rfl (pi_list (pv 9)) (pg_name (i := 10) sc_law_both.nd rfl (Or.inl rfl))
  (pss_one (ps_expr (pe_bm PySem.F.plainAttrs_list PySem.F.slot_list_append PySem.F.type_list_append mt_append (pv 10) (pa_cons pe_str pa_nil)))))
 (pss_cons (ps_if (pt_cmpR (op_neD hr.units) (pe_lc (own := [("_law_one", 10)]) (g := gName 10) rfl sc_law_both.nd (pi_list (pv 9)) (blkOk_by (N := ["_law_write", "_law_read", "_law_value", "_law_same", "_law_due", "_law_some", "_law_kept", "_law_turn", "_law_found", "_law_lists", "_law_one", "_law_item"]) (sc := defScope s_law_both) (by decide +kernel)) (fun _ _ _ _ _ => pg_name (i := 10) sc_law_both.nd rfl (Or.inl rfl)) (fun _ _ _ _ _ => (pts_one (pt_cmpR op_ne (pe_bmK (K := K) rfl PySem.F.plainAttrs_list PySem.F.slot_list_count PySem.F.type_list_count (mt_lcountS (room100 hr)) (pv 10) (pa_cons pe_str pa_nil)) pe_int (nomark _)))) (fun _ _ _ _ _ => (pv 10))) (pe_lst pa_nil) (nomark _))
  (pss_one (ps_ret pe_bl)) pss_nil)
 (pss_one (ps_expr (pe_bm0 PySem.F.plainAttrs_list PySem.F.slot_list_clear PySem.F.type_list_clear mt_clear (pv 8))))))))))
 (pss_one (ps_ret pe_bl)))), ?_⟩
  have z16 := sizeLine_eq
  have os := okd_str td (Nat.le_refl _)
  refine ⟨_, rfl, _, rfl, _, rfl, by show 3 ≤ sizeLine; omega, fun L hL => ⟨_, rfl, ⟨_, SqL.of upd_same⟩, ?_⟩⟩
  refine for_list (xs := [v, v2, v]) (fun i σ H' => ∃ o5 o6, σ = [some (.ref fw), some (.ref fr), some v, some v2, some (.str due), o5, o6, none, none, none, none, none] ∧ Same (upd H L (.lst [v, v2, v])) H')
    ⟨none, none, rfl, Same.refl _⟩ (fun i σ H' _ ⟨_, _, _, s⟩ => SqL.of (s _ _ upd_same)) ?_ ?_
  · rintro i x _ H1 hx ⟨o5, o6, rfl, s⟩
    have e1 : ExtN H H1 := ExtN.of ((upd_new hL).trans s)
    have hx2 : (x = v ∨ x = v2) ∧ ∃ dx, Da K H x dx ∧ Okd dx := by
      match i, hx with
      | 0, hx => cases hx; exact ⟨.inl rfl, d, hv, od⟩
      | 1, hx => cases hx; exact ⟨.inr rfl, d2, hv2, od2⟩
      | 2, hx => cases hx; exact ⟨.inl rfl, d, hv, od⟩
    obtain ⟨hx3, dx, hdx, ox⟩ := hx2
    refine ⟨_, rfl, x, dx, rfl, da_ext e1 hdx, ox.ok, ox.wd2, ox.dp2, ?_⟩
    refine ⟨rfl, trivial, _, rfl, trivial, hw x hx3 H1 _ e1 fun H2 s2 => ?_⟩
    refine ⟨.str due, .str due, rfl, .str due, os.ok, os.wd2, os.dp2, ?_⟩
    refine ⟨_, rfl, .str due, .str due, rfl, .str due, os.ok, os.wd2, os.dp2, rfl, _, rfl, ?_⟩
    rw [selfEq]
    have e2 := e1.trans (ExtN.of s2)
    refine iteF ⟨_, rfl, x, dx, rfl, da_ext e2 hdx, ox.ok, ox.wd2, ox.dp2, _, rfl, rfl, _, rfl, ?_⟩
    rw [selfEq]
    exact iteF ⟨_, _, rfl, s.trans s2⟩
  rintro _ H1 ⟨o5, o6, rfl, s⟩
  have e1 : ExtN H H1 := ExtN.of ((upd_new hL).trans s)
  refine ⟨_, rfl, by decide, by decide, ?_⟩
  refine for_range (fun i σ H' => ∃ o7 o8 o9 o10 o11, σ = [some (.ref fw), some (.ref fr), some v, some v2, some (.str due), o5, o6, o7, o8, o9, o10, o11] ∧ ExtN H H' ∧ TabS H' Pt qL)
    ⟨none, none, none, none, none, rfl, e1, tb.ext ((upd_new hL).trans s)⟩ ?_ ?_
  · rintro i _ H2 hi ⟨o7, o8, o9, o10, o11, rfl, e2, t2⟩
    refine ⟨rfl, trivial, _, rfl, trivial, hrd H2 _ e2 t2 fun D H3 us qs e3 t3 hD hD3 fd ul nd fq da => ?_⟩
    refine ⟨_, rfl, .ref D, d, rfl, da, od.ok, od.wd2, od.dp2, _, rfl, v, d, rfl, da_ext (e2.trans e3) hv, od.ok, od.wd2, od.dp2, rfl, _, rfl, ?_⟩
    rw [selfEq]
    refine iteF ⟨_, rfl, D, rfl, ⟨_, SqL.of hD3⟩, fun M hM => ?_⟩
    refine lc_it walk_list (fun k H' => ∃ j, Vls H3 M ((qs.take j).map V.ref) H' ∧ Fnd H3 (us.drop k) (qs.drop j)) ⟨0, Vls.nil hM, fd⟩ (fun k H' _ ⟨_, vl, _⟩ => SqL.of (vl.same _ _ hD3)) ?_ ?_
    · rintro k x H4 H4' hk ⟨j, vl, fk⟩ ⟨e, hx⟩
      subst e
      have hku : k < us.length := (List.getElem?_eq_some_iff.mp hx).1
      have ex : us[k] = x := (List.getElem?_eq_some_iff.mp hx).2
      rw [List.drop_eq_getElem_cons hku, ex] at fk
      generalize hqj : qs.drop j = qj at fk
      cases fk with
      | txt fk =>
        subst hqj
        exact ⟨rfl, _, rfl, _, _, rfl, .inr (.inr (.inr (.inr (.inl rfl)))), (fun z => nomatch z), _, rfl, iteF (iteF ⟨j, vl, fk⟩)⟩
      | @pair a x y _ _ h1 fk =>
        subst hqj
        have h1 := vl.same _ _ h1
        have ek := kind_tup h1
        have e2 : inst "tuple" (kind H4' (.ref a)) = true := inst_tup h1
        refine ⟨rfl, _, rfl, .ref a, _, rfl, .inr (.inr (.inr (.inr (.inl rfl)))), ek, _, rfl, ?_⟩
        rw [e2]
        exact iteT ⟨_, rfl, a, _, _, _, rfl, rfl, SqT.of h1, atI_nat (j := 1) rfl, .str y, _, rfl, .inr (.inr (.inr (.inl rfl))), (fun z => nomatch z), _, rfl, iteF ⟨j, vl, fk⟩⟩
      | @own a q x ws _ qr h1 h2 h3 h4 h5 h6 fk =>
        have h1 := vl.same _ _ h1
        have h2 := vl.same _ _ h2
        have ek := kind_tup h1
        have e2 : inst "tuple" (kind H4' (.ref a)) = true := inst_tup h1
        have ek3 := kind_lst h2
        have e3 : inst "list" (kind H4' (.ref q)) = true := inst_lst h2
        have jl : j < qs.length := by
          have := congrArg List.length hqj
          rw [List.length_drop, List.length_cons] at this
          omega
        have hq1 : qs[j]? = some q := by
          rw [List.drop_eq_getElem_cons jl] at hqj
          rw [List.getElem?_eq_getElem jl, (List.cons.inj hqj).1]
        have hq2 : qs.drop (j + 1) = qr := by
          rw [List.drop_eq_getElem_cons jl] at hqj
          exact (List.cons.inj hqj).2
        refine ⟨rfl, _, rfl, .ref a, _, rfl, .inr (.inr (.inr (.inr (.inl rfl)))), ek, _, rfl, ?_⟩
        rw [e2]
        refine iteT ⟨_, rfl, a, _, _, _, rfl, rfl, SqT.of h1, atI_nat (j := 1) rfl, .ref q, _, rfl, .inr (.inr (.inr (.inl rfl))), ek3, _, rfl, ?_⟩
        rw [e3]
        have lq := fd.le
        obtain ⟨acc, a1, a2, a3⟩ := vl.add (y := V.ref q) (by rw [List.length_map, List.length_take]; omega)
        refine iteT ⟨_, rfl, a, _, _, _, rfl, rfl, SqT.of h1, atI_nat (j := 1) rfl, acc, a1, a2, j + 1, ?_, by rw [hq2]; exact fk⟩
        rw [take_succ hq1, List.map_append]
        exact a3
    · rintro H4 ⟨j, vl, fk⟩
      have hj : qs.drop j = [] := by
        rw [List.drop_length] at fk
        generalize qs.drop j = z at fk
        cases fk
        rfl
      have tj : qs.take j = qs := by
        have := List.take_append_drop j qs
        rw [hj, List.append_nil] at this
        exact this
      rw [tj] at vl
      have ls : ∀ q ∈ qs, ∃ ws, H4 q = some (.lst ws) := fun q hq => (fd.get q hq).imp fun ws z => vl.same _ _ z.1
      have m0 : Mrk H4 qs 0 H4 := ⟨fun _ _ _ e => e, fun k q hq => by
        obtain ⟨ws, z1, z2, z3, z4⟩ := fd.get q (List.mem_of_getElem? hq)
        refine ⟨ws, vl.same _ _ z1, fun y hy => ?_, by rw [if_neg (Nat.not_lt_zero _)]; exact z3, by rw [if_neg (Nat.not_lt_zero _)]; exact z4⟩
        cases z2 y hy with
        | non => exact .non
        | int i => exact .int i
        | str x => exact .str x
        | tup e => exact .tup (vl.same _ _ e)⟩
      have hMq : M ∉ qs := fun z => by
        obtain ⟨ws, e, _⟩ := fd.get M z
        rw [hM] at e
        exact nomatch e
      refine ⟨_, rfl, M, rfl, ⟨_, SqL.of vl.at_⟩, ?_⟩
      refine for_list (xs := qs.map V.ref) (fun k σ H' => ∃ o10, σ = [some (.ref fw), some (.ref fr), some v, some v2, some (.str due), o5, o6, some (.int (0 + (i : Nat))), some (.ref D), some (.ref M), o10, o11] ∧ Mrk H4 qs k H' ∧ TabS H' Pt qL) ⟨_, rfl, m0, t3.ext vl.same⟩ (fun k σ H' _ ⟨_, _, m, _⟩ => SqL.of (m.keep _ _ hMq vl.at_)) ?_ ?_
      · rintro k x _ H5 hx ⟨o, rfl, m, t5⟩
        rw [List.getElem?_map] at hx
        obtain ⟨q1, hq1, rfl⟩ := Option.map_eq_some_iff.mp hx
        obtain ⟨ws, w1, w2, m'⟩ := m.step fd.nd hq1 ls
        exact ⟨_, rfl, .inl ⟨rfl, _, SqL.of w1⟩, q1, ws, _, rfl, rfl, w1, by omega, _, rfl, m', tab_put t5 w1⟩
      rintro _ H5 ⟨o, rfl, m, t5⟩
      refine ⟨_, rfl, M, rfl, ⟨_, SqL.of (m.keep _ _ hMq vl.at_)⟩, fun E1 hE1 => ?_⟩
      refine lc_it walk_list (fun k H' => Vls H5 E1 [] H') (Vls.nil hE1) (fun k H' _ b => SqL.of (b.same _ _ (m.keep _ _ hMq vl.at_))) ?_ ?_
      · rintro k x H6 H6' hk b ⟨e, hx⟩
        subst e
        rw [List.getElem?_map] at hx
        obtain ⟨q1, hq1, rfl⟩ := Option.map_eq_some_iff.mp hx
        obtain ⟨ws, w1, w2, w3, w4⟩ := m.at_ k q1 hq1
        have kl := (List.getElem?_eq_some_iff.mp hq1).1
        rw [List.length_map, if_pos kl] at w3
        refine ⟨rfl, _, rfl, .inl ⟨rfl, _, SqL.of (b.same _ _ w1)⟩, q1, ws, sMore, rfl, rfl, b.same _ _ w1, fun y hy => ?_, ?_⟩
        · cases m.sim ls (w2 y hy) with
          | non => exact .non
          | int i => exact .int i
          | str x => exact .str x
          | tup e => exact .tup (b.same _ _ e)
        rw [w3]
        refine ⟨rfl, _, rfl, ?_⟩
        rw [show decide (V.int ((1 : Nat) : Int) = V.int 1) = true from decide_eq_true rfl]
        exact iteF b
      intro H6 b
      refine ⟨by show 0 ≤ sizeLine; omega, fun W2 hW2 => ⟨.list [], .list [], .lst (SqL.of (upd_new hW2 _ _ b.at_)) .nil, .lst (SqL.of upd_same) .nil, by decide +kernel, by decide +kernel, ?_⟩⟩
      rw [show (!(PyData.list []).eqv (.list [])) = false by decide +kernel]
      have s6 := b.same.trans (upd_new hW2 (o := .lst []))
      have hD6 := s6 _ _ (m.keep _ _ nd (vl.same _ _ hD3))
      refine ⟨_, rfl, iteF ⟨_, rfl, .inl ⟨rfl, _, SqL.of hD6⟩, D, us, rfl, rfl, hD6, _, _, _, _, _, rfl, ?_, tab_put (t5.ext s6) hD6⟩⟩
      refine fun b1 u hb n => ?_
      have hb2 := e2 _ _ hb n
      rw [upd_ne (ne_of_none hb2 hD)]
      refine s6 _ _ (m.keep _ _ (fun z => ?_) (vl.same _ _ (e3 _ _ hb2 n)))
      rw [fq b1 z] at hb2
      exact nomatch hb2
  · rintro _ H2 ⟨o7, o8, o9, o10, o11, rfl, e2, t2⟩
    exact q H2 e2 t2
end
end KW

namespace KW
open PySem L2 Gd Zn KM KP LamX
section
variable {H H1 H2 : Hp} {p : Addr} {m n : Nat}
theorem Mv.turn (a : Mv H H1 p m) (t : TurnC H1 H2 p n) : Mv H H2 p n := a.trans t.mv
theorem Mv.ext (a : Mv H H1 p m) (s : Same H1 H2) : Mv H H2 p m := by
  obtain ⟨⟨x, y, z, e, r⟩, g⟩ := a
  exact ⟨⟨x, y, z, s _ _ e, r⟩, fun q o hq h => s _ _ (g q o hq h)⟩
theorem Mv.up (a : Mv H H1 p m) (h : m ≤ n) : Mv H H1 p n := ⟨a.box.up h, a.same⟩
theorem BoxC.there (b : BoxC H p m) : ∃ o, H p = some o := let ⟨_, _, _, e, _⟩ := b; ⟨_, e⟩
theorem Mv.free (a : Mv H H1 p m) (b : BoxC H p n) {q : Addr} (h : H1 q = none) : H q = none := by
  cases e : H q with
  | none => rfl
  | some o =>
    by_cases z : q = p
    · obtain ⟨o, e2⟩ := a.box.there
      rw [z, e2] at h
      exact nomatch h
    · rw [a.same _ _ z e] at h
      exact nomatch h
theorem BoxC.ne (b : BoxC H p n) {q : Addr} (h : H q = none) : q ≠ p := fun z => by
  obtain ⟨o, e⟩ := b.there
  rw [z, e] at h
  exact nomatch h
/-- a new thing's change -/
theorem Mv.put {q : Addr} {o : HO} (a : Mv H H1 p m) (b : BoxC H p n) (h : H q = none) : Mv H (upd H1 q o) p m := by
  have hq := b.ne h
  obtain ⟨⟨x, y, z, e, r⟩, g⟩ := a
  exact ⟨⟨x, y, z, by rw [upd_ne hq.symm]; exact e, r⟩, fun c u hc hu => by rw [upd_ne (ne_of_none hu h)]; exact g c u hc hu⟩
end
theorem PrAt.tups {H H1 : Hp} (e : Tups H H1) : ∀ {vs : List V} {l : List (Str × Str)}, PrAt H vs l → PrAt H1 vs l
  | _, _, .nil => .nil
  | _, _, .cons h r => .cons (e _ _ h) (PrAt.tups e r)
theorem PrAt.snoc {H : Hp} {a : Addr} {x y : Str} (h : H a = some (.tup [.str x, .str y])) : ∀ {vs : List V} {l : List (Str × Str)}, PrAt H vs l → PrAt H (vs ++ [.ref a]) (l ++ [(x, y)])
  | _, _, .nil => .cons h .nil
  | _, _, .cons g r => .cons g (PrAt.snoc h r)
theorem str_ok {n : Nat} {x : Str} (h : Tx n x) : PyData.strOk x = true := by
  unfold PyData.strOk
  rw [Array.all_eq_true']
  intro c hc
  have := h.asc c (by simpa using hc)
  exact decide_eq_true (by omega)
theorem spick {k : Int} (h0 : 0 ≤ k) (h1 : k < 4) : ∃ x, atI ([V.str "", .str "a", .str "b", .str "z"]) k = some (.str x) ∧ Sym x := by
  obtain ⟨j, rfl⟩ := Int.eq_ofNat_of_zero_le h0
  have : j < 4 := by omega
  match j, this with
  | 0, _ => exact ⟨"", atI_nat rfl, .inl rfl⟩
  | 1, _ => exact ⟨"a", atI_nat rfl, .inr ⟨97, by decide +kernel, by decide⟩⟩
  | 2, _ => exact ⟨"b", atI_nat rfl, .inr ⟨98, by decide +kernel, by decide⟩⟩
  | 3, _ => exact ⟨"z", atI_nat rfl, .inr ⟨122, by decide +kernel, by decide⟩⟩
section
variable {P : Program} {w : World} {K : PySem.W.Frag} {mg : Str → Option Value} {base : Heap}
abbrev s_law_script : Stmt := top 58
theorem sc_law_script : FnScope ["_law_box_here", "_law_signs", "_law_pairs", "_law_turn", "_law_pair"] ["_law_box_here"] (defScope s_law_script) := ⟨rfl, rfl, rfl, by decide +kernel, rfl, by decide +kernel, by decide +kernel⟩
theorem ok_script {f f1 : Addr} {fd fd1 : FuncData} (F : Fun K "_law_script" "_law_script" s_law_script f fd) (T : Txt K mg base)
    (D__law_take : Df P w K mg base CX0 1 "_law_take" f1 fd1 ["_law_box_here", "_law_many"] spTakeC) : FnG P w K mg base CX0 2 f fd ["_law_box_here"] spScript := by
  refine okG F sc_law_script (fun vs H Q E h => ?_) (fun cdv A outer s H vs Q E hc hr h => ?_)
  · obtain ⟨p, m, rfl, _⟩ := h
    rfl
  obtain ⟨p, m, rfl, hb, hm, q⟩ := h
  refine ⟨_, (pss_cons (ps_set (i := 1) sc_law_script.nd rfl (Or.inr rfl) (pe_lst (pa_cons pe_str (pa_cons pe_str (pa_cons pe_str (pa_cons pe_str pa_nil))))))
 (pss_cons (ps_setLc (i := 2) (own := [("_law_turn", 3)]) (g := gName 3) rfl sc_law_script.nd rfl rfl (sw_true rfl rfl rfl (by decide +kernel)) (pi_range1 rfl T.z_range (pa_cons (pe_d D__law_take hc (hr.mono (by omega)) (by rfl) (fun _ => passN) (pa_cons (pv 0) (pa_cons pe_int pa_nil))) pa_nil)) (blkOk_by (N := ["_law_box_here", "_law_signs", "_law_pairs", "_law_turn", "_law_pair"]) (sc := defScope s_law_script) (by decide +kernel)) (fun _ _ _ _ _ => pg_name (i := 3) sc_law_script.nd rfl (Or.inl rfl)) (fun _ _ _ _ _ => pts_nil) (fun _ _ _ _ _ => (pe_tup (pa_cons (pe_ix (ix_listK (K := K) rfl) (pv 1) (pe_d D__law_take hc (hr.mono (by omega)) (by rfl) (fun _ => passN) (pa_cons (pv 0) (pa_cons pe_int pa_nil))) (fun _ _ => rfl)) (pa_cons (pe_ix (ix_listK (K := K) rfl) (pv 1) (pe_d D__law_take hc (hr.mono (by omega)) (by rfl) (fun _ => passN) (pa_cons (pv 0) (pa_cons pe_int pa_nil))) (fun _ _ => rfl)) pa_nil)))))
 (pss_one (ps_ret (pe_lc (own := [("_law_pair", 4)]) (g := gName 4) rfl sc_law_script.nd (pi_list (pv 2)) (blkOk_by (N := ["_law_box_here", "_law_signs", "_law_pairs", "_law_turn", "_law_pair"]) (sc := defScope s_law_script) (by decide +kernel)) (fun _ _ _ _ _ => pg_name (i := 4) sc_law_script.nd rfl (Or.inl rfl)) (fun _ _ _ _ _ => pts_nil) (fun _ _ _ _ _ => (pe_ifExp (pt_cmpR (op_neDK (K := K) rfl hr.units) (pv 4) (pe_tup (pa_cons pe_str (pa_cons pe_str pa_nil))) (nomark _)) (pv 4) (pe_tup (pa_cons pe_str (pa_cons pe_str pa_nil)))))))))), ?_⟩
  have z16 := sizeLine_eq
  refine ⟨by show 4 ≤ sizeLine; omega, fun S hS => ?_⟩
  have Sp : S ≠ p := hb.ne hS
  have m0 : Mv H (upd H S (.lst [.str "", .str "a", .str "b", .str "z"])) p m := (Mv.refl hb).new hS
  refine ⟨_, rfl, p, 9, m, rfl, m0.box, by omega, by decide, by decide, fun n H1 n0 n1 t1 => ?_⟩
  have m1 := m0.turn t1
  have hS1 : H1 S = some (.lst [.str "", .str "a", .str "b", .str "z"]) := by rw [t1.2 S Sp]; exact upd_same
  refine ⟨_, rfl, by omega, by omega, fun D hD => ?_⟩
  have hD0 : H D = none := m1.free hb hD
  have hDp : D ≠ p := hb.ne hD0
  have hDS : D ≠ S := fun z => by rw [z, hS1] at hD; exact nomatch hD
  refine lc_it walk_range (fun i H' => ∃ us l, H' D = some (.lst us) ∧ PrAt H' us l ∧ (∀ e ∈ l, Sym e.1 ∧ Sym e.2) ∧ l.length = i ∧ H' S = some (.lst [.str "", .str "a", .str "b", .str "z"]) ∧ Mv H H' p (m + 1 + 2 * i))
    ⟨[], [], upd_same, .nil, (fun e he => nomatch he), rfl, by rw [upd_ne hDS.symm]; exact hS1, (m1.put hb hD0).up (by omega)⟩ (fun _ _ _ _ => trivial) ?_ ?_
  · rintro i x H2 H2' hi ⟨us, l, hus, pr, sy, ln, hS2, m2⟩ ⟨e, rfl⟩
    subst e
    have i9 : i < 9 := by omega
    refine ⟨rfl, yes_go ⟨_, rfl, _, rfl, p, 4, _, rfl, m2.box, by omega, by decide, by decide, fun a H3 a0 a1 t3 => ?_⟩⟩
    have m3 := m2.turn t3
    have hS3 : H3 S = some (.lst [.str "", .str "a", .str "b", .str "z"]) := by rw [t3.2 S Sp]; exact hS2
    obtain ⟨x1, e1, s1⟩ := spick a0 a1
    refine ⟨S, _, _, _, rfl, rfl, SqL.of hS3, e1, _, rfl, _, rfl, p, 4, _, rfl, m3.box, by omega, by decide, by decide, fun b H4 b0 b1 t4 => ?_⟩
    have m4 := m3.turn t4
    have hS4 : H4 S = some (.lst [.str "", .str "a", .str "b", .str "z"]) := by rw [t4.2 S Sp]; exact hS3
    obtain ⟨x2, e2, s2⟩ := spick b0 b1
    refine ⟨S, _, _, _, rfl, rfl, SqL.of hS4, e2, by show 2 ≤ sizeLine; omega, fun t ht => ?_⟩
    have hD4 : H4 D = some (.lst us) := by rw [t4.2 D hDp, t3.2 D hDp]; exact hus
    have tD : t ≠ D := fun z => by rw [z, hD4] at ht; exact nomatch ht
    have lu := pr.len
    have tup : ∀ c xs, H2' c = some (.tup xs) → upd (upd H4 t (.tup [.str x1, .str x2])) D (.lst (us ++ [.ref t])) c = some (.tup xs) := fun c xs e => by
      have cp : c ≠ p := fun z => by
        obtain ⟨u, v, y, e3, _⟩ := m2.box
        rw [z, e3] at e
        exact nomatch e
      have e4 : H4 c = some (.tup xs) := by rw [t4.2 c cp, t3.2 c cp]; exact e
      rw [upd_ne (fun z => by rw [z, hD4] at e4; exact nomatch e4), upd_ne (ne_of_none e4 ht)]
      exact e4
    refine ⟨us, by rw [upd_ne tD.symm]; exact hD4, by omega, us ++ [.ref t], l ++ [(x1, x2)], upd_same, ?_, ?_, by rw [List.length_append, ln]; rfl, ?_, ?_⟩
    · exact (pr.tups tup).snoc (by rw [upd_ne tD, upd_same])
    · intro e he
      rcases List.mem_append.mp he with he | he
      · exact sy e he
      · obtain rfl := List.mem_singleton.mp he
        exact ⟨s1, s2⟩
    · rw [upd_ne hDS.symm, upd_ne (fun z => by rw [← z, hS4] at ht; exact nomatch ht)]
      exact hS4
    · exact ((m4.new ht).put hb hD0).up (by omega)
  · rintro H2 ⟨us, l, hus, pr, sy, ln, hS2, m2⟩
    have lu := pr.len
    have l8 : l.length ≤ 8 := by omega
    refine ⟨_, rfl, D, rfl, ⟨_, SqL.of hus⟩, fun E1 hE1 => ?_⟩
    refine lc_it walk_list (fun i H' => ∃ vs l', Vls H2 E1 vs H' ∧ PrAt H' vs l' ∧ (∀ e ∈ l', PrOk e.1 e.2) ∧ l'.length = i) ⟨[], [], Vls.nil hE1, .nil, (fun e he => nomatch he), rfl⟩ (fun i H' _ ⟨_, _, v, _⟩ => SqL.of (v.same _ _ hus)) ?_ ?_
    · rintro i x H3 H3' hi ⟨vs, l', vl, pv, ok, ln'⟩ ⟨e, hx⟩
      subst e
      obtain ⟨a, x1, x2, rfl, e1, e2⟩ := pr.get hx
      obtain ⟨s1, s2⟩ := sy _ (List.mem_of_getElem? e1)
      have e2 := vl.same _ _ e2
      refine ⟨rfl, yes_go ⟨_, rfl, by show 2 ≤ sizeLine; omega, fun t ht => ?_⟩⟩
      refine ⟨.tuple [.str x1, .str x2], .tuple [.str "", .str ""], .tup (SqT.of (upd_new ht _ _ e2)) (.cons (.str _) (.cons (.str _) .nil)), .tup (SqT.of upd_same) (.cons (.str _) (.cons (.str _) .nil)), ?_, by decide +kernel, ?_⟩
      · show (PyData.canLay0 (.tuple [.str x1, .str x2]) && decide (PyData.depth (.tuple [.str x1, .str x2]) ≤ 64)) = true
        have c1 : (PyData.strOk x1 && (PyData.strOk x2 && true)) = true := by rw [str_ok (sym_tx s1), str_ok (sym_tx s2)]; rfl
        rw [show PyData.canLay0 (.tuple [.str x1, .str x2]) = true from c1]
        rfl
      have ev : (PyData.tuple [.str x1, .str x2]).eqv (.tuple [.str "", .str ""]) = ((x1 == "") && ((x2 == "") && true)) := rfl
      have v1 := vl.ext (upd_new ht (o := .tup [.str "", .str ""]))
      have lv := pv.len
      -- one item more
      have add : ∀ (H4 : Hp) (t2 : Addr) (y1 y2 : Str), Same (upd H3' t (.tup [.str "", .str ""])) H4 → H4 t2 = some (.tup [.str y1, .str y2]) → PrOk y1 y2 →
          ∃ acc, H4 E1 = some (.lst acc) ∧ acc.length < sizeLine ∧ ∃ vs l', Vls H2 E1 vs (upd H4 E1 (.lst (acc ++ [.ref t2]))) ∧ PrAt (upd H4 E1 (.lst (acc ++ [.ref t2]))) vs l' ∧ (∀ e ∈ l', PrOk e.1 e.2) ∧ l'.length = i + 1 := by
        intro H4 t2 y1 y2 s4 h2 oy
        obtain ⟨acc, a1, a2, a3⟩ := (v1.ext s4).add (y := V.ref t2) (by omega)
        have tp := tups_put (ys := acc ++ [V.ref t2]) a1
        refine ⟨acc, a1, a2, _, l' ++ [(y1, y2)], a3, (pv.tups fun c xs e => tp _ _ (s4 _ _ (upd_new ht _ _ e))).snoc (tp _ _ h2), fun e he => ?_, by rw [List.length_append, ln']; rfl⟩
        rcases List.mem_append.mp he with he | he
        · exact ok e he
        · obtain rfl := List.mem_singleton.mp he
          exact oy
      refine ⟨_, rfl, ?_⟩
      rw [ev]
      by_cases z : x1 = "" ∧ x2 = ""
      · rw [z.1, z.2]
        refine iteF ⟨by show 2 ≤ sizeLine; omega, fun t2 ht2 => ?_⟩
        exact add _ t2 "a" "" (upd_new ht2) upd_same ⟨.inr ⟨97, by decide +kernel, by decide⟩, .inl rfl, by decide +kernel⟩
      · have zf : ((x1 == "") && ((x2 == "") && true)) = false := by
          cases h1 : x1 == ("" : Str) with
          | false => rfl
          | true =>
            cases h2 : x2 == ("" : Str) with
            | false => rfl
            | true => exact absurd ⟨eq_of_beq h1, eq_of_beq h2⟩ z
        rw [zf]
        refine iteT ⟨_, rfl, add _ a x1 x2 (Same.refl _) (upd_new ht _ _ e2) ⟨s1, s2, ?_⟩⟩
        rcases s1 with rfl | ⟨c, rfl, _⟩
        · rcases s2 with rfl | ⟨c, rfl, _⟩
          · exact absurd ⟨rfl, rfl⟩ z
          · show 1 ≤ _ + 1
            omega
        · show 1 ≤ 1 + _
          omega
    · rintro H3 ⟨vs, l', vl, pv, ok, ln'⟩
      exact q E1 H3 vs l' ((m2.ext vl.same).up (by omega)) (m2.free hb vl.free) vl.at_ pv ok (by omega)
end
end KW

namespace KW
open PySem L2 Gd Zn KM KP LamX
/-- nodes of a drawn pattern -/
def Nn : Nat → Nat
  | 0 => 3
  | m + 1 => 3 * (1 + Nn m)
def Bn : Nat → Nat
  | 0 => 1
  | m + 1 => 1 + Nn m
theorem nn_eq (m : Nat) : Nn m = 3 * Bn m := by cases m <;> rfl
theorem bn_pos : ∀ m : Nat, 1 ≤ Bn m
  | 0 => Nat.le_refl _
  | m + 1 => by show 1 ≤ 1 + Nn m; omega
/-- new data: its part G of the heap holds nothing that stood in H0 -/
structure Fr (H0 G H : Hp) : Prop where
  s : Same G H
  n : ∀ c, G c ≠ none → H0 c = none
/-- two parts -/
def uni (G1 G2 : Hp) : Hp := fun c => match G1 c with
  | some o => some o
  | none => G2 c
theorem uni_l {G1 G2 : Hp} : Same G1 (uni G1 G2) := fun c o e => by
  show (match G1 c with | some o => some o | none => G2 c) = some o
  rw [e]
theorem uni_r {G1 G2 : Hp} (h : ∀ c, G2 c ≠ none → G1 c = none) : Same G2 (uni G1 G2) := fun c o e => by
  show (match G1 c with | some o => some o | none => G2 c) = some o
  rw [h c (by rw [e]; exact fun z => nomatch z)]
  exact e
theorem uni_to {G1 G2 H : Hp} (a : Same G1 H) (b : Same G2 H) : Same (uni G1 G2) H := fun c o e => by
  have e : (match G1 c with | some o => some o | none => G2 c) = some o := e
  cases g : G1 c with
  | some u =>
    rw [g] at e
    injection e with e
    subst e
    exact a _ _ g
  | none =>
    rw [g] at e
    exact b _ _ e
theorem uni_not {G1 G2 : Hp} {c : Addr} (h : uni G1 G2 c ≠ none) : G1 c ≠ none ∨ G2 c ≠ none := by
  cases g : G1 c with
  | some u => exact .inl (fun z => nomatch z)
  | none =>
    refine .inr ?_
    have e : uni G1 G2 c = G2 c := by
      show (match G1 c with | some o => some o | none => G2 c) = G2 c
      rw [g]
    rw [e] at h
    exact h

/-- how often the pool may turn for a drawn pattern -/
def Tm : Nat → Nat
  | 0 => 8
  | m + 1 => 4 * Tm m
def Bt : Nat → Nat
  | 0 => 2
  | m + 1 => 1 + Tm m
theorem tm_ge : ∀ m : Nat, 8 ≤ Tm m
  | 0 => Nat.le_refl _
  | m + 1 => by
    have := tm_ge m
    show 8 ≤ 4 * Tm m
    omega
theorem bt_ge : ∀ m : Nat, 2 ≤ Bt m
  | 0 => Nat.le_refl _
  | m + 1 => by
    have := tm_ge m
    show 2 ≤ 1 + Tm m
    omega
theorem tm_bt : ∀ m : Nat, 1 + 3 * Bt m ≤ Tm m
  | 0 => by decide
  | m + 1 => by
    have := tm_ge m
    show 1 + 3 * (1 + Tm m) ≤ 4 * Tm m
    omega
def spPat (m : Nat) : Sp := fun vs H Q _ => ∃ (p : Addr) (d : Int) (mm : Nat), vs = [.ref p, .int d] ∧ BoxC H p mm ∧ mm + Tm m ≤ 90000 ∧ 0 ≤ d ∧ d ≤ m ∧
  ∀ v H' G l, Mv H H' p (mm + Tm m) → Fr H G H' → LiAt G true v l → Good (Nn m) m l → Q v H'
/-- the list at D under way -/
def Dr (H : Hp) (p D : Addr) (c m i : Nat) (H' : Hp) : Prop := ∃ (us : List V) (l : List Pt) (G : Hp), l.length = i ∧ H' D = some (.lst us) ∧ PtsAt G true us l ∧ Fr H G H' ∧ G D = none ∧ Mv H H' p (c + i * Bt m) ∧ Wfs l ∧ deps l ≤ m ∧ nods l ≤ i * Bn m
theorem Fr.pool {H G H' : Hp} {p : Addr} {n : Nat} (fr : Fr H G H') (hb : BoxC H p n) : G p = none := by
  cases e : G p with
  | none => rfl
  | some u =>
    obtain ⟨o, ho⟩ := hb.there
    rw [fr.n p (by rw [e]; exact fun z => nomatch z)] at ho
    exact nomatch ho
theorem Fr.turn {H G H1 H2 : Hp} {p : Addr} {n k : Nat} (fr : Fr H G H1) (hb : BoxC H p n) (t : TurnC H1 H2 p k) : Fr H G H2 := ⟨fun a o e => by
  have hap : a ≠ p := fun z => by rw [z, fr.pool hb] at e; exact nomatch e
  rw [t.2 a hap]
  exact fr.s _ _ e, fr.n⟩
/-- one item more -/
theorem Dr.done {H H3 G' : Hp} {p D : Addr} {c m i n : Nat} {us : List V} {l : List Pt} {G : Hp} {v : V} {pt : Pt} (hb : BoxC H p n) (hD : H D = none) (i3 : i < 3) (ln : l.length = i) (hts : PtsAt G true us l) (wf : Wfs l) (dp : deps l ≤ m) (nd : nods l ≤ i * Bn m)
    (a1 : H3 D = some (.lst us)) (a2 : Same G G') (a3 : Fr H G' H3) (a4 : G' D = none) (a5 : Mv H H3 p (c + i * Bt m + Bt m)) (a6 : PtAt G' true v pt) (a7 : pt.Wf) (a8 : pt.dep ≤ m) (a9 : pt.nod ≤ Bn m) :
    ∃ acc, H3 D = some (.lst acc) ∧ acc.length < sizeLine ∧ Dr H p D c m (i + 1) (upd H3 D (.lst (acc ++ [v]))) := by
  have z16 := sizeLine_eq
  have lu := hts.length
  refine ⟨us, a1, by omega, us ++ [v], l ++ [pt], G', by rw [List.length_append, ln]; rfl, upd_same, (hts.same a2).snoc a6, ⟨fun c o e => ?_, a3.n⟩, a4, ?_, wfs_app wf ⟨a7, trivial⟩, ?_, ?_⟩
  · rw [upd_ne (fun z => by rw [z, a4] at e; exact nomatch e)]
    exact a3.s _ _ e
  · rw [Nat.succ_mul, ← Nat.add_assoc]
    exact a5.put hb hD
  · rw [deps_app]
    show max (deps l) (max pt.dep 0) ≤ m
    omega
  · rw [nods_app, Nat.succ_mul]
    show nods l + (pt.nod + 0) ≤ _
    omega
section
variable {P : Program} {w : World} {K : PySem.W.Frag} {mg : Str → Option Value} {base : Heap}
abbrev s_law_pattern : Stmt := top 59
theorem sc_law_pattern : FnScope ["_law_box_here", "_law_deep", "_law_found", "_law_turn"] ["_law_box_here", "_law_deep"] (defScope s_law_pattern) := ⟨rfl, rfl, rfl, by decide +kernel, rfl, by decide +kernel, by decide +kernel⟩
theorem ok_pat {f f1 f2 : Addr} {fd fd1 fd2 : FuncData} {m : Nat} {sp0 : Sp} (F : Fun K "_law_pattern" "_law_pattern" s_law_pattern f fd) (T : Txt K mg base)
    (D__law_take : Df P w K mg base CX0 1 "_law_take" f1 fd1 ["_law_box_here", "_law_many"] spTakeC) (D__law_pattern : Df P w K mg base CX0 (1 + m) "_law_pattern" f2 fd2 ["_law_box_here", "_law_deep"] sp0) (h0 : ∀ k, m = k + 1 → sp0 = spPat k) :
    FnG P w K mg base CX0 (1 + m + 1) f fd ["_law_box_here", "_law_deep"] (spPat m) := by
  refine okG F sc_law_pattern (fun vs H Q E h => ?_) (fun cdv A outer s H vs Q E hc hr h => ?_)
  · obtain ⟨p, d, mm, rfl, _⟩ := h
    rfl
  obtain ⟨p, d, mm, rfl, hb, hmm, d0, d1, q⟩ := h
  refine ⟨_, (pss_cons (ps_set (i := 2) sc_law_pattern.nd rfl (Or.inl rfl) (pe_lst pa_nil))
 (pss_cons (ps_for (passes_of rfl) rfl (pi_range1 rfl T.z_range (pa_cons (pe_op op_add pe_int (pe_d D__law_take hc (hr.mono (by omega)) (by rfl) (fun _ => passN) (pa_cons (pv 0) (pa_cons pe_int pa_nil)))) pa_nil)) (pg_name (i := 3) sc_law_pattern.nd rfl (Or.inl rfl))
  (pss_one (ps_if (PW.pt (pw_and (pt_cmpR op_gt (pv 1) pe_int (nomark _)) (pw_and1 (pt_cmpR op_eq (pe_d D__law_take hc (hr.mono (by omega)) (by rfl) (fun _ => passN) (pa_cons (pv 0) (pa_cons pe_int pa_nil))) pe_int (nomark _)))))
  (pss_one (ps_expr (pe_bm PySem.F.plainAttrs_list PySem.F.slot_list_append PySem.F.type_list_append mt_append (pv 2) (pa_cons (pe_tup (pa_cons pe_str (pa_cons (pe_d D__law_pattern hc (hr.mono (by omega)) (by rfl) (fun _ => passN) (pa_cons (pv 0) (pa_cons (pe_op op_sub (pv 1) pe_int) pa_nil))) pa_nil))) pa_nil)))) (pss_one (ps_expr (pe_bm PySem.F.plainAttrs_list PySem.F.slot_list_append PySem.F.type_list_append mt_append (pv 2) (pa_cons (pe_ix ix_str pe_str (pe_d D__law_take hc (hr.mono (by omega)) (by rfl) (fun _ => passN) (pa_cons (pv 0) (pa_cons pe_int pa_nil))) (fun _ _ => rfl)) pa_nil)))))))
 (pss_one (ps_ret (pv 2))))), ?_⟩
  have z16 := sizeLine_eq
  have tb := tm_bt m
  have bg := bt_ge m
  refine ⟨by show 0 ≤ sizeLine; omega, fun D hD => ?_⟩
  have Dp : D ≠ p := hb.ne hD
  have k0 : Mv H (upd H D (.lst [])) p mm := (Mv.refl hb).put hb hD
  refine ⟨_, rfl, p, 3, mm, rfl, k0.box, by omega, by decide, by decide, fun e H1 e0 e1 t1 => ?_⟩
  refine ⟨_, _, rfl, rfl, _, rfl, by omega, by omega, ?_⟩
  have k1 := k0.turn t1
  have hD1 : H1 D = some (.lst []) := by rw [t1.2 D Dp]; exact upd_same
  have bp := bn_pos m
  refine for_range (fun i σ H' => ∃ o3 : Option V, σ = [some (.ref p), some (.int d), some (.ref D), o3] ∧ Dr H p D (mm + 1) m i H')
    ⟨none, rfl, [], [], fun _ => none, rfl, hD1, .nil, ⟨(fun _ _ z => nomatch z), (fun _ z => absurd rfl z)⟩, rfl, k1.up (by omega), trivial, Nat.zero_le _, Nat.zero_le _⟩ ?_ ?_
  · rintro i _ H2 hi ⟨o3, rfl, us, l, G, ln, hD2, hts, fr, gD, k2, wf, dp, nd⟩
    have i3 : i < 3 := by omega
    have i3' : i * Bt m + Bt m ≤ 3 * Bt m := by
      rw [← Nat.succ_mul]
      exact Nat.mul_le_mul_right _ (by omega)
    have tz : Tx 3 (("abz" : String) : Str) := .of (by decide +kernel)
    have lz : ((("abz" : String) : Str)).length = 3 := by decide +kernel
    have letter : ∀ (H3 H4 : Hp) (x : Int) (n : Nat), H3 D = some (.lst us) → Fr H G H3 → Mv H H3 p n → n + 1 ≤ mm + 1 + i * Bt m + Bt m → 0 ≤ x → x < 3 → TurnC H3 H4 p (n + 1) →
        ∃ c, atI (("abz" : String) : Str).cps.toList x = some c ∧ ∃ acc, H4 D = some (.lst acc) ∧ acc.length < sizeLine ∧ Dr H p D (mm + 1) m (i + 1) (upd H4 D (.lst (acc ++ [.str ⟨#[c]⟩]))) := by
      intro H3 H4 x n h3 f3 k3 hn x0 x1 t4
      obtain ⟨c, hc1, _, hm⟩ := atI_sign tz x0 (by rw [lz]; exact x1)
      have lc : low c = true := by
        have e : (("abz" : String) : Str).cps.toList = [97, 98, 122] := by decide +kernel
        rw [e] at hm
        simp only [List.mem_cons, List.not_mem_nil, or_false] at hm
        rcases hm with rfl | rfl | rfl <;> decide
      exact ⟨c, hc1, Dr.done hb hD i3 ln hts wf dp nd (by rw [t4.2 D Dp]; exact h3) (Same.refl G) (f3.turn hb t4) gD ((k3.turn t4).up hn) .ch lc (Nat.zero_le _) bp⟩
    refine ⟨_, rfl, _, _, rfl, rfl, _, rfl, ?_⟩
    refine iteB (fun c => ?_) (fun c => ?_)
    · have dpos : (0 : Int) < d := of_decide_eq_true c
      refine ⟨_, rfl, p, 3, _, rfl, k2.box, by omega, by decide, by decide, fun y H3 y0 y1 t3 => ⟨rfl, _, rfl, ?_⟩⟩
      have k3 := k2.turn t3
      have h3 : H3 D = some (.lst us) := by rw [t3.2 D Dp]; exact hD2
      have f3 := fr.turn hb t3
      obtain ⟨m', rfl⟩ : ∃ m', m = m' + 1 := ⟨m - 1, by omega⟩
      have bte : Bt (m' + 1) = 1 + Tm m' := rfl
      have tg := tm_ge m'
      refine iteB (fun _ => ?_) (fun _ => ?_)
      · have es := h0 m' rfl
        subst es
        refine ⟨_, rfl, .inl ⟨rfl, _, SqL.of h3⟩, _, rfl, _, rfl, _, _, rfl, rfl, ?_⟩
        refine ⟨p, d - 1, _, rfl, k3.box, by omega, by omega, by omega, fun v H4 G4 l4 k4 f4 L4 g4 => ⟨by show 2 ≤ sizeLine; omega, fun t ht => ?_⟩⟩
        have pG := fr.pool hb
        have sG4 : Same G H4 := fun a o e => by
          have hap : a ≠ p := fun z => by rw [z, pG] at e; exact nomatch e
          exact k4.same _ _ hap (f3.s _ _ e)
        have dis : ∀ c, G4 c ≠ none → G c = none := fun c hc => by
          have := f4.n c hc
          cases e : G c with
          | none => rfl
          | some o => rw [f3.s _ _ e] at this; exact nomatch this
        have k04 := k3.trans k4
        have fU : Fr H (uni G G4) H4 := ⟨uni_to sG4 f4.s, fun c hc => by
          rcases uni_not hc with h | h
          · exact fr.n c h
          · exact k3.free hb (f4.n c h)⟩
        have U_D : uni G G4 D = none := by
          cases e : uni G G4 D with
          | none => rfl
          | some o =>
            exfalso
            rcases uni_not (c := D) (by rw [e]; exact fun z => nomatch z) with h | h
            · exact h gD
            · have := f4.n D h
              rw [h3] at this
              exact nomatch this
        have U_t : uni G G4 t = none := by
          cases e : uni G G4 t with
          | none => rfl
          | some o => rw [fU.s _ _ e] at ht; exact nomatch ht
        have tD : t ≠ D := fun z => by
          have : H4 D = some (.lst us) := k4.same _ _ Dp h3
          rw [z, this] at ht
          exact nomatch ht
        have h5 : (upd H4 t (.tup [.str sRep, v])) D = some (.lst us) := by rw [upd_ne tD.symm]; exact k4.same _ _ Dp h3
        have sU : Same (uni G G4) (upd (uni G G4) t (.tup [.str sRep, v])) := upd_new U_t
        obtain ⟨q1, vs1, rfl, b1, b2⟩ := L4.same (uni_r dis)
        have f5 : Fr H (upd (uni G G4) t (.tup [.str sRep, .ref q1])) (upd H4 t (.tup [.str sRep, .ref q1])) := by
          refine ⟨fun a o e => ?_, fun a ha => ?_⟩
          · by_cases z : a = t
            · rw [z, upd_same] at e ⊢
              exact e
            · rw [upd_ne z] at e ⊢
              exact fU.s _ _ e
          · by_cases z : a = t
            · rw [z]
              exact k04.free hb ht
            · rw [upd_ne z] at ha
              exact fU.n a ha
        obtain ⟨acc, a1, a2, a3⟩ := Dr.done (c := mm + 1) (v := .ref t) (pt := .rep l4) hb hD i3 ln hts wf dp nd h5 (uni_l.trans sU) f5 (by rw [upd_ne tD.symm]; exact U_D) ((k04.new ht).up (by omega)) (.rep upd_same (sU _ _ b1) (b2.same sU)) ⟨g4.ne, g4.wf⟩
          (by show deps l4 + 1 ≤ m' + 1; have := g4.dp; omega) (by show nods l4 + 1 ≤ 1 + Nn m'; have := g4.nd; omega)
        exact ⟨D, acc, _, rfl, rfl, a1, a2, _, rfl, a3⟩
      · refine ⟨_, rfl, .inl ⟨rfl, _, SqL.of h3⟩, _, rfl, p, 3, _, rfl, k3.box, by omega, by decide, by decide, fun x H4 x0 x1 t4 => ?_⟩
        obtain ⟨c2, hc1, acc, a1, a2, a3⟩ := letter H3 H4 x _ h3 f3 k3 (by omega) x0 x1 t4
        exact ⟨_, _, c2, rfl, rfl, by rw [lz]; omega, hc1, D, acc, _, rfl, rfl, a1, a2, _, rfl, a3⟩
    · refine iteF ⟨_, rfl, .inl ⟨rfl, _, SqL.of hD2⟩, _, rfl, p, 3, _, rfl, k2.box, by omega, by decide, by decide, fun x H4 x0 x1 t4 => ?_⟩
      obtain ⟨c2, hc1, acc, a1, a2, a3⟩ := letter H2 H4 x _ hD2 fr k2 (by omega) x0 x1 t4
      exact ⟨_, _, c2, rfl, rfl, by rw [lz]; omega, hc1, D, acc, _, rfl, rfl, a1, a2, _, rfl, a3⟩
  · rintro _ H2 ⟨o3, rfl, us, l, G, ln, hD2, hts, fr, gD, k2, wf, dp, nd⟩
    have sD : Same G (upd G D (.lst us)) := upd_new gD
    have e3 : (1 + e).toNat ≤ 3 := by omega
    have e4 := Nat.mul_le_mul_right (Bt m) e3
    have e5 := Nat.mul_le_mul_right (Bn m) e3
    refine ⟨_, rfl, q _ _ (upd G D (.lst us)) l (k2.up (by omega)) ⟨fun a o e => ?_, fun a ha => ?_⟩ ⟨D, us, rfl, upd_same, hts.same sD⟩ ⟨by omega, wf, dp, ?_⟩⟩
    · by_cases z : a = D
      · rw [z, upd_same] at e
        rw [z, hD2]
        exact e
      · rw [upd_ne z] at e
        exact fr.s _ _ e
    · by_cases z : a = D
      · rw [z]
        exact hD
      · rw [upd_ne z] at ha
        exact fr.n a ha
    · rw [nn_eq]
      omega
theorem all_pat {f f1 : Addr} {fd fd1 : FuncData} (F : Fun K "_law_pattern" "_law_pattern" s_law_pattern f fd) (T : Txt K mg base) (D__law_take : Df P w K mg base CX0 1 "_law_take" f1 fd1 ["_law_box_here", "_law_many"] spTakeC)
    (m0 : mg "_law_pattern" = some (.ref f)) (k0 : PySem.W.keepIn K (.ref f) = true) (b0 : Binds K fd ["_law_box_here", "_law_deep"] []) : ∀ m, FnG P w K mg base CX0 (1 + m + 1) f fd ["_law_box_here", "_law_deep"] (spPat m)
  | 0 => ok_pat (m := 0) F T D__law_take ⟨no_fn (sp := fun _ _ _ _ => False) (fun _ _ _ _ z => z), m0, k0, b0⟩ (fun k z => absurd z (by omega))
  | m + 1 => ok_pat (m := m + 1) F T D__law_take ⟨all_pat F T D__law_take m0 k0 b0 m, m0, k0, b0⟩ (fun k z => by
    obtain rfl : m = k := by omega
    rfl)
end
end KW

namespace KW
open PySem L2 Gd Zn KM KP LamX
theorem EnAt.snoc {H : Hp} {b : Bool} {t c : Addr} {s : Nat} {cs : List (Option Nat)} (h : H t = some (.tup [.int (s : Nat), .ref c])) (g : H c = some (so b (cs.map oV))) : ∀ {vs : List V} {l : List (Nat × List (Option Nat))}, EnAt H b vs l → EnAt H b (vs ++ [.ref t]) (l ++ [(s, cs)])
  | _, _, .nil => .cons h g .nil
  | _, _, .cons h1 g1 r => .cons h1 g1 (EnAt.snoc h g r)
theorem Fr.put {H G H' : Hp} {q : Addr} {o : HO} (fr : Fr H G H') (h : G q = none) : Fr H G (upd H' q o) := ⟨fun a u e => by
  rw [upd_ne (fun z => by rw [z, h] at e; exact nomatch e)]
  exact fr.s _ _ e, fr.n⟩
theorem Fr.none {H G H' : Hp} {q : Addr} (fr : Fr H G H') (h : H' q = none) : G q = none := by
  cases e : G q with
  | none => rfl
  | some o => rw [fr.s _ _ e] at h; exact nomatch h
/-- a new thing is of the new part -/
theorem Fr.add {H G H' : Hp} {q : Addr} {o : HO} (fr : Fr H G H') (h : H q = Option.none) : Fr H (upd G q o) (upd H' q o) := by
  refine ⟨fun a u e => ?_, fun a ha => ?_⟩
  · by_cases z : a = q
    · rw [z, upd_same] at e ⊢
      exact e
    · rw [upd_ne z] at e ⊢
      exact fr.s _ _ e
  · by_cases z : a = q
    · rw [z]
      exact h
    · rw [upd_ne z] at ha
      exact fr.n a ha
/-- it stands there already -/
theorem Fr.own {H G H' : Hp} {q : Addr} {o : HO} (fr : Fr H G H') (h : H q = Option.none) (e0 : H' q = some o) : Fr H (upd G q o) H' := by
  refine ⟨fun a u e => ?_, fun a ha => ?_⟩
  · by_cases z : a = q
    · rw [z, upd_same] at e
      rw [z, e0]
      exact e
    · rw [upd_ne z] at e
      exact fr.s _ _ e
  · by_cases z : a = q
    · rw [z]
      exact h
    · rw [upd_ne z] at ha
      exact fr.n a ha
def spBounds : Sp := fun vs H Q _ => ∃ (p : Addr) (m : Nat), vs = [.ref p] ∧ BoxC H p m ∧ m < 90000 ∧
  ∀ D H' G us l wd, Mv H H' p (m + 100) → H D = none → H' D = some (.lst us) → Fr H G H' → EnAt G true us l → (∀ e ∈ l, EnOk e ∧ e.2.length = wd) → wd ≤ 4 → l.length ≤ 7 → Q (.ref D) H'
section
variable {P : Program} {w : World} {K : PySem.W.Frag} {mg : Str → Option Value} {base : Heap}
abbrev s_law_bounds : Stmt := top 60
theorem sc_law_bounds : FnScope ["_law_box_here", "_law_wide", "_law_top", "_law_found", "_law_turn", "_law_place"] ["_law_box_here"] (defScope s_law_bounds) := ⟨rfl, rfl, rfl, by decide +kernel, rfl, by decide +kernel, by decide +kernel⟩
theorem ok_lbounds {f f1 : Addr} {fd fd1 : FuncData} (F : Fun K "_law_bounds" "_law_bounds" s_law_bounds f fd) (T : Txt K mg base)
    (D__law_take : Df P w K mg base CX0 1 "_law_take" f1 fd1 ["_law_box_here", "_law_many"] spTakeC) : FnG P w K mg base CX0 2 f fd ["_law_box_here"] spBounds := by
  refine okG F sc_law_bounds (fun vs H Q E h => ?_) (fun cdv A outer s H vs Q E hc hr h => ?_)
  · obtain ⟨p, m, rfl, _⟩ := h
    rfl
  obtain ⟨p, m, rfl, hb, hm, q⟩ := h
  refine ⟨_, (pss_cons (ps_asg (pe_tup (pa_cons (pe_d D__law_take hc (hr.mono (by omega)) (by rfl) (fun _ => passN) (pa_cons (pv 0) (pa_cons pe_int pa_nil))) (pa_cons (pe_ix ix_list (pe_lst (pa_cons pe_int (pa_cons pe_int (pa_cons (pe_op op_pow pe_int pe_int) pa_nil)))) (pe_d D__law_take hc (hr.mono (by omega)) (by rfl) (fun _ => passN) (pa_cons (pv 0) (pa_cons pe_int pa_nil))) (fun _ _ => rfl)) pa_nil))) (pg_tup (by rfl) (pgs_cons (pg_name (i := 1) sc_law_bounds.nd rfl (Or.inl rfl)) (pgs_cons (pg_name (i := 2) sc_law_bounds.nd rfl (Or.inr rfl)) pgs_nil))))
 (pss_cons (ps_set (i := 3) sc_law_bounds.nd rfl (Or.inl rfl) (pe_lst pa_nil))
 (pss_cons (ps_for (passes_of rfl) rfl (pi_range1 rfl T.z_range (pa_cons (pe_d D__law_take hc (hr.mono (by omega)) (by rfl) (fun _ => passN) (pa_cons (pv 0) (pa_cons pe_int pa_nil))) pa_nil)) (pg_name (i := 4) sc_law_bounds.nd rfl (Or.inl rfl))
  (pss_one (ps_expr (pe_bm PySem.F.plainAttrs_list PySem.F.slot_list_append PySem.F.type_list_append mt_append (pv 3) (pa_cons (pe_tup (pa_cons (pe_d D__law_take hc (hr.mono (by omega)) (by rfl) (fun _ => passN) (pa_cons (pv 0) (pa_cons (pv 2) pa_nil))) (pa_cons (pe_lc (own := [("_law_place", 5)]) (g := gName 5) rfl sc_law_bounds.nd (pi_range1 rfl T.z_range (pa_cons (pv 1) pa_nil)) (blkOk_by (N := ["_law_box_here", "_law_wide", "_law_top", "_law_found", "_law_turn", "_law_place"]) (sc := defScope s_law_bounds) (by decide +kernel)) (fun _ _ _ _ _ => pg_name (i := 5) sc_law_bounds.nd rfl (Or.inl rfl)) (fun _ _ _ _ _ => pts_nil) (fun _ _ _ _ _ => (pe_ix (ix_listK (K := K) rfl) (pe_lst (pa_cons pe_non (pa_cons (pe_d D__law_take hc (hr.mono (by omega)) (by rfl) (fun _ => passN) (pa_cons (pv 0) (pa_cons (pv 2) pa_nil))) pa_nil))) (pe_d D__law_take hc (hr.mono (by omega)) (by rfl) (fun _ => passN) (pa_cons (pv 0) (pa_cons pe_int pa_nil))) (fun _ _ => rfl)))) pa_nil))) pa_nil)))))
 (pss_one (ps_ret (pv 3)))))), ?_⟩
  have z16 := sizeLine_eq
  refine ⟨_, rfl, p, 5, m, rfl, hb, by omega, by decide, by decide, fun wd H1 w0 w1 t1 => ?_⟩
  have m1 : Mv H H1 p (m + 1) := (Mv.refl hb).turn t1
  refine ⟨_, _, rfl, rfl, ⟨by decide, by decide, by decide⟩, by show 3 ≤ sizeLine; omega, fun S hS => ?_⟩
  have Sp : S ≠ p := fun z => by
    obtain ⟨o, e⟩ := m1.box.there
    rw [z, e] at hS
    exact nomatch hS
  have m2 := m1.new (o := .lst [.int 2, .int 20, .int ((10 : Int) ^ (30 : Int).toNat)]) hS
  refine ⟨_, rfl, p, 3, _, rfl, m2.box, by omega, by decide, by decide, fun k H2 k0 k1 t2 => ?_⟩
  have m3 := m2.turn t2
  have hS2 : H2 S = some (.lst [.int 2, .int 20, .int ((10 : Int) ^ (30 : Int).toNat)]) := by rw [t2.2 S Sp]; exact upd_same
  obtain ⟨v1, hv1, top, rfl, tp0, tp1⟩ := atI_all (l := [V.int 2, .int 20, .int ((10 : Int) ^ (30 : Int).toNat)]) (p := fun v => ∃ z : Int, v = .int z ∧ 0 < z ∧ z ≤ 1000000000000000000000000000000) (by
    intro v hv
    simp only [List.mem_cons, List.not_mem_nil, or_false] at hv
    rcases hv with rfl | rfl | rfl
    · exact ⟨_, rfl, by decide, by decide⟩
    · exact ⟨_, rfl, by decide, by decide⟩
    · exact ⟨_, rfl, by decide, by decide⟩) k0 (by show k < 3; exact k1)
  refine ⟨S, _, _, _, rfl, rfl, SqL.of hS2, hv1, by show 2 ≤ sizeLine; omega, fun tt htt => ⟨tt, _, rfl, SqT.of upd_same, rfl, _, _, rfl, _, _, rfl, rfl, ?_⟩⟩
  have m4 := m3.new (o := .tup [.int wd, .int top]) htt
  refine ⟨by show 0 ≤ sizeLine; omega, fun D hD => ?_⟩
  have hD0 : H D = none := m4.free hb hD
  have Dp : D ≠ p := hb.ne hD0
  have m5 := m4.new (o := .lst []) hD
  refine ⟨_, rfl, p, 8, _, rfl, m5.box, by omega, by decide, by decide, fun n H6 n0 n1 t6 => ⟨_, rfl, by omega, by omega, ?_⟩⟩
  have m6 := m5.turn t6
  have hD6 : H6 D = some (.lst []) := by rw [t6.2 D Dp]; exact upd_same
  refine for_range (fun i σ H' => ∃ (o4 : Option V) (us : List V) (l : List (Nat × List (Option Nat))) (G : Hp), σ = [some (.ref p), some (.int wd), some (.int top), some (.ref D), o4, none] ∧ l.length = i ∧ H' D = some (.lst us) ∧ EnAt G true us l ∧ Fr H G H' ∧ G D = none ∧ Mv H H' p (m + 3 + i * 10) ∧ ∀ e ∈ l, EnOk e ∧ e.2.length = wd.toNat)
    ⟨none, [], [], fun _ => none, rfl, rfl, hD6, .nil, ⟨(fun _ _ z => nomatch z), (fun _ z => absurd rfl z)⟩, rfl, m6.up (by omega), fun e he => nomatch he⟩ ?_ ?_
  · rintro i _ H7 hi ⟨o4, us, l, G, rfl, ln, hD7, en, fr, gD, m7, ok⟩
    have i8 : i < 8 := by omega
    have lu := en.len
    refine ⟨_, rfl, .inl ⟨rfl, _, SqL.of hD7⟩, _, rfl, _, rfl, p, top, _, rfl, m7.box, by omega, tp0, tp1, fun st H8 st0 st1 t8 => ?_⟩
    have m8 := m7.turn t8
    have f8 := fr.turn hb t8
    have hD8 : H8 D = some (.lst us) := by rw [t8.2 D Dp]; exact hD7
    refine ⟨_, rfl, _, rfl, by omega, by omega, fun C hC => ?_⟩
    have hC0 : H C = none := m8.free hb hC
    have Cp : C ≠ p := hb.ne hC0
    have CD : C ≠ D := fun z => by rw [z, hD8] at hC; exact nomatch hC
    have gC : G C = none := f8.none hC
    refine lc_it walk_range (fun j H' => ∃ cs : List (Option Nat), H' C = some (.lst (cs.map oV)) ∧ cs.length = j ∧ (∀ o ∈ cs, oOk o) ∧ Fr H G H' ∧ Mv H H' p (m + 3 + i * 10 + 1 + 2 * j) ∧ H' D = some (.lst us))
      ⟨[], upd_same, rfl, (fun e he => nomatch he), f8.put gC, m8.put hb hC0, by rw [upd_ne CD.symm]; exact hD8⟩ (fun _ _ _ _ => trivial) ?_ ?_
    · rintro j x H9 H9' hj ⟨cs, c1, c2, c3, f9, m9, hD9⟩ ⟨e, rfl⟩
      subst e
      have j4 : j < 4 := by omega
      refine ⟨rfl, yes_go ⟨_, rfl, _, rfl, p, top, _, rfl, m9.box, by omega, tp0, tp1, fun x H10 x0 x1 t10 => ⟨by show 2 ≤ sizeLine; omega, fun Z hZ => ?_⟩⟩⟩
      have m10 := m9.turn t10
      have Zp : Z ≠ p := hb.ne (m10.free hb hZ)
      have m11 := m10.new (o := .lst [.non, .int x]) hZ
      refine ⟨_, rfl, p, 2, _, rfl, m11.box, by omega, by decide, by decide, fun y H12 y0 y1 t12 => ?_⟩
      have m12 := m11.turn t12
      have hZ2 : H12 Z = some (.lst [.non, .int x]) := by rw [t12.2 Z Zp]; exact upd_same
      have f12 := ((f9.turn hb t10).put ((f9.turn hb t10).none hZ) (o := .lst [.non, .int x])).turn hb t12
      have c12 : H12 C = some (.lst (cs.map oV)) := by
        have hC10 : H10 C = some (.lst (cs.map oV)) := by rw [t10.2 C Cp]; exact c1
        rw [t12.2 C Cp, upd_ne (ne_of_none hC10 hZ)]
        exact hC10
      have hD12 : H12 D = some (.lst us) := by
        have hD10 : H10 D = some (.lst us) := by rw [t10.2 D Dp]; exact hD9
        rw [t12.2 D Dp, upd_ne (ne_of_none hD10 hZ)]
        exact hD10
      obtain ⟨o, hv2, ho⟩ : ∃ o : Option Nat, atI [V.non, .int x] y = some (oV o) ∧ oOk o := by
        obtain ⟨jj, rfl⟩ := Int.eq_ofNat_of_zero_le y0
        have : jj < 2 := by omega
        match jj, this with
        | 0, _ => exact ⟨none, atI_nat rfl, trivial⟩
        | 1, _ =>
          obtain ⟨z, rfl⟩ := Int.eq_ofNat_of_zero_le x0
          exact ⟨some z, atI_nat rfl, show z < 1000000000000000000000000000000 by omega⟩
      refine ⟨Z, _, _, _, rfl, rfl, SqL.of hZ2, hv2, cs.map oV, c12, by rw [List.length_map]; omega, cs ++ [o], by rw [upd_same, List.map_append]; rfl, by rw [List.length_append, c2]; rfl, fun o' h' => ?_, f12.put gC, (m12.put hb hC0).up (by omega), by rw [upd_ne CD.symm]; exact hD12⟩
      rcases List.mem_append.mp h' with h' | h'
      · exact c3 o' h'
      · rw [List.mem_singleton.mp h']
        exact ho
    · rintro H9 ⟨cs, c1, c2, c3, f9, m9, hD9⟩
      refine ⟨by show 2 ≤ sizeLine; omega, fun t ht => ?_⟩
      obtain ⟨st', rfl⟩ := Int.eq_ofNat_of_zero_le st0
      have tD : t ≠ D := fun z => by rw [z, hD9] at ht; exact nomatch ht
      have tC : t ≠ C := fun z => by rw [z, c1] at ht; exact nomatch ht
      have ht0 : H t = none := m9.free hb ht
      have f10 := (f9.own hC0 c1).add (o := .tup [.int (st' : Nat), .ref C]) ht0
      have gD2 : upd (upd G C (.lst (cs.map oV))) t (.tup [.int (st' : Nat), .ref C]) D = none := by rw [upd_ne tD.symm, upd_ne CD.symm]; exact gD
      have sG : Same G (upd (upd G C (.lst (cs.map oV))) t (.tup [.int (st' : Nat), .ref C])) := (upd_new gC).trans (upd_new (by rw [upd_ne tC]; exact f9.none ht))
      refine ⟨D, us, _, rfl, rfl, by rw [upd_ne tD.symm]; exact hD9, by omega, _, us ++ [.ref t], l ++ [(st', cs)], _, rfl, by rw [List.length_append, ln]; rfl, upd_same, (en.same sG).snoc upd_same (by rw [upd_ne tC.symm]; exact upd_same), f10.put gD2, gD2, ((m9.new ht).put hb hD0).up (by omega), fun e he => ?_⟩
      rcases List.mem_append.mp he with he | he
      · exact ok e he
      · obtain rfl := List.mem_singleton.mp he
        exact ⟨⟨show st' < 1000000000000000000000000000000 by omega, c3, by show cs.length ≤ 90; omega⟩, by show cs.length = wd.toNat; omega⟩
  · rintro _ H7 ⟨o4, us, l, G, rfl, ln, hD7, en, fr, gD, m7, ok⟩
    exact ⟨_, rfl, q D H7 G us l wd.toNat (m7.up (by omega)) hD0 hD7 fr en ok (by omega) (by omega)⟩
end
end KW

namespace KW
open PySem PySem.Spec PyProof.Rows L2 Gd Zn KM KP LamX
/-! ### patterns, pairs and tables as data -/
def seqD : Bool → List PyData → PyData
  | true, ds => .list ds
  | false, ds => .tuple ds
mutual
def pD (b : Bool) : Pt → PyData
  | .ch c => .str ⟨#[c]⟩
  | .rep l => .tuple [.str sRep, seqD b (pDs b l)]
def pDs (b : Bool) : List Pt → List PyData
  | [] => []
  | p :: l => pD b p :: pDs b l
end
theorem da_seq {K : PySem.W.Frag} {H : Hp} {b : Bool} {q : Addr} {vs : List V} {ds : List PyData} (h : H q = some (so b vs)) (r : DaL K H vs ds) : Da K H (.ref q) (seqD b ds) := by
  cases b
  · exact .tup (SqT.of h) r
  · exact .lst h r
section
variable {K : PySem.W.Frag} {H : Hp} {b : Bool}
mutual
theorem pt_da : ∀ {v : V} {p : Pt}, PtAt H b v p → Da K H v (pD b p)
  | _, _, .ch => by rw [pD]; exact .str _
  | _, _, .rep h g t => by rw [pD]; exact .tup (SqT.of h) (.cons (.str _) (.cons (da_seq g (pts_da t)) .nil))
theorem pts_da : ∀ {vs : List V} {l : List Pt}, PtsAt H b vs l → DaL K H vs (pDs b l)
  | _, _, .nil => by rw [pDs]; exact .nil
  | _, _, .cons h r => by rw [pDs]; exact .cons (pt_da h) (pts_da r)
end
end
mutual
theorem da_dp {K : PySem.W.Frag} {H : Hp} : ∀ {v : V} {d : PyData}, Da K H v d → d.canLay0 = true → Dp K H v d
  | _, _, .non, _ => .non
  | _, _, .bl b, _ => .bl b
  | _, _, .int i, _ => .int i
  | _, _, .str x, _ => .str x
  | _, _, .lst h r, c => .lst (SqL.of h) (daL_dp r c)
  | _, _, .tup h r, c => .tup h (daL_dp r c)
  | _, _, .dct h r, c => nomatch (show false = true from c)
theorem daL_dp {K : PySem.W.Frag} {H : Hp} : ∀ {vs : List V} {ds : List PyData}, DaL K H vs ds → PyData.canLayAll0 ds = true → DpAll K H vs ds
  | _, _, .nil, _ => .nil
  | _, _, .cons h r, c => by
    have c := Bool.and_eq_true_iff.mp (show (PyData.canLay0 _ && PyData.canLayAll0 _) = true from c)
    exact .cons (da_dp h c.1) (daL_dp r c.2)
end
/-- what a small thing is -/
structure Sml (n k : Nat) (d : PyData) : Prop where
  ok : Ok1 d
  lay : d.canLay0 = true
  wd : wid d + 2 ≤ n
  dp : d.depth ≤ k
theorem sml_all {n k : Nat} : ∀ {ds : List PyData}, (∀ d ∈ ds, Sml n k d) → OkL ds ∧ PyData.canLayAll0 ds = true ∧ widL ds ≤ ds.length * n ∧ PyData.depthAll ds ≤ k
  | [], _ => ⟨trivial, rfl, Nat.zero_le _, Nat.zero_le _⟩
  | d :: ds, h => by
    obtain ⟨a, b, c, e⟩ := sml_all (ds := ds) fun x hx => h x (List.mem_cons_of_mem _ hx)
    obtain ⟨a1, b1, c1, e1⟩ := h d List.mem_cons_self
    refine ⟨⟨a1, a⟩, ?_, ?_, ?_⟩
    · show (d.canLay0 && PyData.canLayAll0 ds) = true
      rw [b1, b]
      rfl
    · rw [List.length_cons, Nat.succ_mul]
      show wid d + 2 + widL ds ≤ _
      omega
    · show max d.depth (PyData.depthAll ds) ≤ k
      omega
theorem sml_seq {n k m : Nat} {ds : List PyData} (b : Bool) (h : ∀ d ∈ ds, Sml n k d) (hm : ds.length * n + 5 ≤ m) : Sml m (k + 1) (seqD b ds) := by
  obtain ⟨a, c, d, e⟩ := sml_all h
  cases b
  · exact ⟨a, c, by show widL ds + 3 + 2 ≤ m; omega, by show PyData.depthAll ds + 1 ≤ k + 1; omega⟩
  · exact ⟨a, c, by show widL ds + 2 + 2 ≤ m; omega, by show PyData.depthAll ds + 1 ≤ k + 1; omega⟩
theorem Sml.okd {n k : Nat} {d : PyData} (h : Sml n k d) (hn : n ≤ 16000000) (hk : k ≤ 60) : Okd d := ⟨h.ok, by have := h.wd; omega, Nat.le_trans h.dp hk⟩
theorem Sml.up {n k n' k' : Nat} {d : PyData} (h : Sml n k d) (hn : n ≤ n') (hk : k ≤ k') : Sml n' k' d := ⟨h.ok, h.lay, Nat.le_trans h.wd hn, Nat.le_trans h.dp hk⟩
theorem sml_str {n : Nat} {x : Str} (h : Tx n x) : Sml (10 * n + 4) 0 (.str x) := by
  have := h.len
  refine ⟨h.big, str_ok h, ?_, Nat.le_refl _⟩
  show 10 * x.length + 2 + 2 ≤ _
  omega
theorem low_tx {c : Nat} (h : low c = true) : Tx 1 (⟨#[c]⟩ : Str) := sym_tx (.inr ⟨c, rfl, h⟩)
/-! patterns -/
mutual
theorem sml_pt (b : Bool) : ∀ p : Pt, p.Wf → Sml (100 * p.nod) (2 * p.dep) (pD b p)
  | .ch c, h => by
    rw [pD]
    exact (sml_str (low_tx h)).up (by show 14 ≤ 100 * 1; omega) (Nat.le_refl _)
  | .rep l, h => by
    obtain ⟨a, c, d, e⟩ := sml_pts b l h.2
    have tr : Tx 6 sRep := .of (by decide +kernel)
    have s1 : Sml 64 0 (.str sRep) := sml_str tr
    rw [pD]
    have hs : OkL (pDs b l) ∧ PyData.canLayAll0 (pDs b l) = true := ⟨a, c⟩
    have q : Ok1 (seqD b (pDs b l)) ∧ (seqD b (pDs b l)).canLay0 = true ∧ wid (seqD b (pDs b l)) ≤ widL (pDs b l) + 3 ∧ (seqD b (pDs b l)).depth = PyData.depthAll (pDs b l) + 1 := by
      cases b
      · exact ⟨a, c, Nat.le_refl _, rfl⟩
      · exact ⟨a, c, (by show widL _ + 2 ≤ _; omega), rfl⟩
    obtain ⟨q1, q2, q3, q4⟩ := q
    refine ⟨⟨s1.ok, q1, trivial⟩, ?_, ?_, ?_⟩
    · show (PyData.canLay0 (.str sRep) && ((seqD b (pDs b l)).canLay0 && true)) = true
      rw [s1.lay, q2]
      rfl
    · show wid (.str sRep) + 2 + (wid (seqD b (pDs b l)) + 2 + 0) + 3 + 2 ≤ 100 * (nods l + 1)
      have := s1.wd
      omega
    · show max 0 (max (seqD b (pDs b l)).depth 0) + 1 ≤ 2 * (deps l + 1)
      omega
theorem sml_pts (b : Bool) : ∀ l : List Pt, Wfs l → OkL (pDs b l) ∧ PyData.canLayAll0 (pDs b l) = true ∧ widL (pDs b l) ≤ 100 * nods l ∧ PyData.depthAll (pDs b l) ≤ 2 * deps l
  | [], _ => by rw [pDs]; exact ⟨trivial, rfl, Nat.zero_le _, Nat.zero_le _⟩
  | p :: l, h => by
    obtain ⟨a, c, d, e⟩ := sml_pts b l h.2
    have s := sml_pt b p h.1
    have s1 := s.wd
    have s2 := s.dp
    rw [pDs]
    refine ⟨⟨s.ok, a⟩, ?_, ?_, ?_⟩
    · show ((pD b p).canLay0 && PyData.canLayAll0 (pDs b l)) = true
      rw [s.lay, c]
      rfl
    · show wid (pD b p) + 2 + widL (pDs b l) ≤ 100 * (p.nod + nods l)
      omega
    · show max (pD b p).depth (PyData.depthAll (pDs b l)) ≤ 2 * max p.dep (deps l)
      omega
end
/-! pairs, tables -/
theorem sml_pr {x y : Str} (h : PrOk x y) : Sml 60 1 (prD (x, y)) :=
  sml_seq (n := 14) (k := 0) false (ds := [.str x, .str y]) (fun d hd => by
    rcases List.mem_cons.mp hd with rfl | hd
    · exact sml_str (sym_tx h.1)
    · obtain rfl := List.mem_singleton.mp hd
      exact sml_str (sym_tx h.2.1)) (by show 2 * 14 + 5 ≤ 60; omega)
theorem sml_nat {n : Nat} (h : n < 1000000000000000000000000000000) : Sml 140 0 (.int (n : Nat)) := by
  have hl : ((n : Nat) : Int).natAbs.log2 < 120 := by
    rw [show ((n : Nat) : Int).natAbs = n from rfl]
    by_cases z : n = 0
    · rw [z]
      decide
    · exact (Nat.log2_lt z).mpr (by omega)
  refine ⟨by show ((n : Nat) : Int).natAbs.log2 < 1920; omega, rfl, ?_, Nat.le_refl _⟩
  show ((n : Nat) : Int).natAbs.log2 + 3 + 2 ≤ 140
  omega
theorem sml_o {o : Option Nat} (h : oOk o) : Sml 140 0 (oD o) := by
  cases o with
  | none => exact ⟨trivial, rfl, (by show 4 + 2 ≤ 140; decide), Nat.le_refl _⟩
  | some n => exact sml_nat h
def enB (b : Bool) (e : Nat × List (Option Nat)) : PyData := .tuple [.int (e.1 : Nat), seqD b (e.2.map oD)]
theorem enB_true (e : Nat × List (Option Nat)) : enB true e = enD e := rfl
theorem sml_en (b : Bool) {e : Nat × List (Option Nat)} {m : Nat} (h : EnOk e) (hm : e.2.length = m) (m10 : m ≤ 10) : Sml 3300 2 (enB b e) := by
  have s1 : Sml 1600 1 (seqD b (e.2.map oD)) := sml_seq b (fun d hd => by
    obtain ⟨o, ho, rfl⟩ := List.mem_map.mp hd
    exact sml_o (h.2.1 o ho)) (by rw [List.length_map]; omega)
  refine sml_seq (n := 1600) (k := 1) false (ds := [.int (e.1 : Nat), seqD b (e.2.map oD)]) (fun d hd => ?_) (by show 2 * 1600 + 5 ≤ 3300; omega)
  rcases List.mem_cons.mp hd with rfl | hd
  · exact (sml_nat h.1).up (by omega) (by omega)
  · obtain rfl := List.mem_singleton.mp hd
    exact s1
theorem en_da {K : PySem.W.Frag} {H : Hp} {b : Bool} : ∀ {us : List V} {l : List (Nat × List (Option Nat))}, EnAt H b us l → DaL K H us (l.map (enB b))
  | _, _, .nil => .nil
  | _, _, .cons h g r => .cons (.tup (SqT.of h) (.cons (.int _) (.cons (da_seq g (daO _)) .nil))) (en_da r)
theorem pr_da {K : PySem.W.Frag} {H : Hp} : ∀ {us : List V} {l : List (Str × Str)}, PrAt H us l → DaL K H us (l.map prD)
  | _, _, .nil => .nil
  | _, _, .cons h r => .cons (.tup (SqT.of h) (.cons (.str _) (.cons (.str _) .nil))) (pr_da r)
theorem sml_mem {α : Type} {f : α → PyData} {l : List α} {n k : Nat} (h : ∀ a ∈ l, Sml n k (f a)) : ∀ d ∈ l.map f, Sml n k d := fun d hd => by
  obtain ⟨a, ha, rfl⟩ := List.mem_map.mp hd
  exact h a ha
/-! == of data that lies deep -/
def rEqB (K : PySem.W.Frag) : R2 := fun x y H Q => ∃ d, Dp K H x d ∧ Dp K H y d ∧ d.canLay0 = true ∧ d.depth ≤ 220 ∧ Q (.bl true) H
theorem op_eqB {X : Cx} (hu : X.A.units + 230 < cLine) : OpR X (compareOp .Eq) (rEqB X.K) := by
  intro pins s σ H x y v u Q I rx ry h
  obtain ⟨d, hd, he, c, dp, q⟩ := h
  obtain ⟨as, r1⟩ := Dp.reads I d x v hd rx
  obtain ⟨bs, r2⟩ := Dp.reads I d y u he ry
  refine SeqAt.compareEq_reads r1 r2 c c (by rw [Nat.min_self]; omega) ⟨.bl _, H, I, rfl, ?_⟩
  rw [SeqAt.eqv_refl d c]
  exact q
end KW

namespace KW
open PySem L2 Gd Zn KM KP LamX
/-- all stands but the pool and the tables of code objects -/
def Ev (H H' : Hp) (p : Addr) : Prop := ∀ q o, q ≠ p → H q = some o → (∀ ps, o ≠ .tbl ps) → H' q = some o
section
variable {H H1 H2 : Hp} {p : Addr} {n : Nat}
theorem Ev.refl : Ev H H p := fun _ _ _ h _ => h
theorem Ev.trans (a : Ev H H1 p) (b : Ev H1 H2 p) : Ev H H2 p := fun q o hq h n => b q o hq (a q o hq h n) n
theorem Ev.same (a : Ev H H1 p) (s : Same H1 H2) : Ev H H2 p := fun q o hq h n => s _ _ (a q o hq h n)
theorem Ev.turn (a : Ev H H1 p) (t : TurnC H1 H2 p n) : Ev H H2 p := fun q o hq h n => (t.2 q hq).trans (a q o hq h n)
theorem Ev.ext (a : Ev H H1 p) (e : ExtN H1 H2) : Ev H H2 p := fun q o hq h n => e _ _ (a q o hq h n) n
theorem Ev.mv (a : Ev H H1 p) (m : Mv H1 H2 p n) : Ev H H2 p := fun q o hq h n => m.same _ _ hq (a q o hq h n)
theorem Ev.new {q : Addr} {o : HO} (a : Ev H H1 p) (h : H1 q = none) : Ev H (upd H1 q o) p := a.same (upd_new h)
end
theorem tab_turn {H H' : Hp} {P p : Addr} {q : Str} {m n : Nat} (b : BoxC H p m) (t : TurnC H H' p n) (T : TabS H P q) : TabS H' P q := by
  obtain ⟨x, y, z, e, _⟩ := b
  obtain ⟨ps, h1, h2, h3⟩ := T
  refine ⟨ps, by rw [t.2 P (fun z => by rw [z, e] at h1; exact nomatch h1)]; exact h1, h2, fun pos cv hc => ?_⟩
  obtain ⟨c, e1, e2⟩ := h3 pos cv hc
  refine ⟨c, e1, by rw [t.2 c (fun z => by rw [z, e] at e2; exact nomatch (show HO.lst _ = CodeO p q from Option.some.inj e2))]; exact e2⟩
theorem tab_mv {H H' : Hp} {P p : Addr} {q : Str} {m n : Nat} (b : BoxC H p m) (t : Mv H H' p n) (T : TabS H P q) : TabS H' P q := by
  obtain ⟨x, y, z, e, _⟩ := b
  obtain ⟨ps, h1, h2, h3⟩ := T
  refine ⟨ps, t.same _ _ (fun z => by rw [z, e] at h1; exact nomatch h1) h1, h2, fun pos cv hc => ?_⟩
  obtain ⟨c, e1, e2⟩ := h3 pos cv hc
  exact ⟨c, e1, t.same _ _ (fun z => by rw [z, e] at e2; exact nomatch (show HO.lst _ = CodeO p q from Option.some.inj e2)) e2⟩
theorem box_same {H H' : Hp} {p : Addr} {m : Nat} (b : BoxC H p m) (s : Same H H') : BoxC H' p m := by
  obtain ⟨x, y, z, e, r⟩ := b
  exact ⟨x, y, z, s _ _ e, r⟩
theorem box_ext {H H' : Hp} {p : Addr} {m : Nat} (b : BoxC H p m) (s : ExtN H H') : BoxC H' p m := by
  obtain ⟨x, y, z, e, r⟩ := b
  exact ⟨x, y, z, s _ _ e (fun ps z => nomatch z), r⟩
theorem room230 {k : Nat} {A : Around} (r : Room k A) (h : 2 ≤ k) : A.units + 230 < cLine := by
  have := r.un
  omega
theorem PrAt.app {H : Hp} : ∀ {vs : List V} {l : List (Str × Str)} {us : List V} {m : List (Str × Str)}, PrAt H vs l → PrAt H us m → PrAt H (vs ++ us) (l ++ m)
  | _, _, _, _, .nil, g => g
  | _, _, _, _, .cons h r, g => .cons h (PrAt.app r g)
theorem PrAt.reps {H : Hp} {vs : List V} {l : List (Str × Str)} (h : PrAt H vs l) : ∀ n : Nat, PrAt H (List.replicate n vs).flatten (List.replicate n l).flatten
  | 0 => .nil
  | n + 1 => h.app (PrAt.reps h n)
theorem PrAt.take {H : Hp} : ∀ {vs : List V} {l : List (Str × Str)} (n : Nat), PrAt H vs l → PrAt H (vs.take n) (l.take n)
  | _, _, 0, _ => by rw [List.take_zero, List.take_zero]; exact .nil
  | _, _, n + 1, .nil => by rw [List.take_nil, List.take_nil]; exact .nil
  | _, _, n + 1, .cons h r => by rw [List.take_succ_cons, List.take_succ_cons]; exact .cons h (PrAt.take n r)
theorem ptsA_app {H : Hp} {b : Bool} : ∀ {vs us : List V} {l m : List Pt}, PtsAt H b vs l → PtsAt H b us m → PtsAt H b (vs ++ us) (l ++ m)
  | _, _, _, _, .nil, g => g
  | _, _, _, _, .cons h r, g => .cons h (ptsA_app r g)
theorem ptsA_reps {H : Hp} {b : Bool} {v : V} {p : Pt} (h : PtAt H b v p) : ∀ n : Nat, PtsAt H b (List.replicate n [v]).flatten (List.replicate n p)
  | 0 => .nil
  | n + 1 => .cons h (ptsA_reps h n)
/-- so many times repeated -/
def nest : Nat → List Pt → List Pt
  | 0, l => l
  | n + 1, l => [.rep (nest n l)]
theorem nest_ok {l : List Pt} (h0 : 1 ≤ l.length) (h : Wfs l) : ∀ n : Nat, 1 ≤ (nest n l).length ∧ Wfs (nest n l) ∧ deps (nest n l) = n + deps l ∧ nods (nest n l) = n + nods l
  | 0 => ⟨h0, h, (Nat.zero_add _).symm, (Nat.zero_add _).symm⟩
  | n + 1 => by
    obtain ⟨a, b, c, d⟩ := nest_ok h0 h n
    refine ⟨Nat.le_refl _, ⟨⟨a, b⟩, trivial⟩, ?_, ?_⟩
    · show max (deps (nest n l) + 1) 0 = n + 1 + deps l
      omega
    · show nods (nest n l) + 1 + 0 = n + 1 + nods l
      omega
theorem reps_ok {p : Pt} (h : p.Wf) (hd : p.dep = 0) (hn : p.nod = 1) : ∀ n : Nat, Wfs (List.replicate n p) ∧ deps (List.replicate n p) = 0 ∧ nods (List.replicate n p) = n
  | 0 => ⟨trivial, rfl, rfl⟩
  | n + 1 => by
    obtain ⟨a, b, c⟩ := reps_ok h hd hn n
    refine ⟨⟨h, a⟩, ?_, ?_⟩
    · show max p.dep (deps (List.replicate n p)) = 0
      omega
    · show p.nod + nods (List.replicate n p) = n + 1
      omega
theorem shp_all {n k : Nat} {ds : List PyData} (h : ∀ d ∈ ds, Sml n k d) (hk : k + 1 ≤ 64) : PyData.canLayAll0 ds = true ∧ SeqAt.shaped (.list ds) = true := by
  obtain ⟨_, lay, _, dp⟩ := sml_all h
  refine ⟨lay, ?_⟩
  show (PyData.canLayAll0 ds && decide (PyData.depthAll ds + 1 ≤ 64)) = true
  rw [lay, decide_eq_true (by omega)]
  rfl
def spGreat (Pt : Addr) : Sp := fun vs H Q _ => ∃ (p : Addr) (m : Nat), vs = [.ref p] ∧ BoxC H p m ∧ m < 90000 ∧ TabS H Pt qL ∧ ∀ H', Ev H H' p → TabS H' Pt qL → Q (.bl true) H'
section
variable {P : Program} {w : World} {K : PySem.W.Frag} {mg : Str → Option Value} {base : Heap}
abbrev s_law_great_right : Stmt := top 66
theorem sc_law_great_right : FnScope ["_law_box_here", "_law_pairs", "_law_table", "_law_pattern_here", "_law_turn", "_law_place"] ["_law_box_here"] (defScope s_law_great_right) := ⟨rfl, rfl, rfl, by decide +kernel, rfl, by decide +kernel, by decide +kernel⟩
theorem ok_great {f f1 f2 f3 f4 f5 f6 f7 PT : Addr} {fd fd1 fd2 fd3 fd4 fd5 fd6 fd7 : FuncData} (F : Fun K "_law_great_right" "_law_great_right" s_law_great_right f fd) (T : Txt K mg base)
    (D__law_take : Df P w K mg base CX0 1 "_law_take" f1 fd1 ["_law_box_here", "_law_many"] spTakeC) (D_write_script : Df P w K mg base CX0 4 "write_script" f2 fd2 ["script"] spWrS) (D_read_script : Df P w K mg base CX0 7 "read_script" f3 fd3 ["text"] (spReadS K PT))
    (D_write_bounds : Df P w K mg base CX0 5 "write_bounds" f4 fd4 ["table"] spWrB) (D_read_bounds : Df P w K mg base CX0 7 "read_bounds" f5 fd5 ["text"] (spReadB K))
    (D_write_pattern : Df P w K mg base CX0 150 "write_pattern" f6 fd6 ["pattern"] spWrP) (D_read_pattern : Df P w K mg base CX0 150 "read_pattern" f7 fd7 ["text"] spReadP) :
    FnG P w K mg base CX0 151 f fd ["_law_box_here"] (spGreat PT) := by
  refine okG F sc_law_great_right (fun vs H Q E h => ?_) (fun cdv A outer s H vs Q E hc hr h => ?_)
  · obtain ⟨p, m, rfl, _⟩ := h
    rfl
  obtain ⟨p, m, rfl, hb, hm, tb, q⟩ := h
  refine ⟨_, (pss_cons (ps_set (i := 1) sc_law_great_right.nd rfl (Or.inl rfl) (pe_op op_rep (pe_slice sl_list (pe_lst (pa_cons (pe_tup (pa_cons pe_str (pa_cons pe_str pa_nil))) (pa_cons (pe_tup (pa_cons pe_str (pa_cons pe_str pa_nil))) (pa_cons (pe_tup (pa_cons pe_str (pa_cons pe_str pa_nil))) pa_nil)))) po_none (po_some (pe_op op_add pe_int (pe_d D__law_take hc (hr.mono (by omega)) (by rfl) (fun _ => passN) (pa_cons (pv 0) (pa_cons pe_int pa_nil)))))) pe_int))
 (pss_cons (ps_if (pt_cmpR (op_neD hr.units) (pe_d D_read_script hc (hr.mono (by omega)) (by rfl) (fun _ => passN) (pa_cons (pe_d D_write_script hc (hr.mono (by omega)) (by rfl) (fun _ => passN) (pa_cons (pv 1) pa_nil)) pa_nil)) (pv 1) (nomark _))
  (pss_one (ps_ret pe_bl)) pss_nil)
 (pss_cons (ps_setLc (i := 2) (own := [("_law_place", 5)]) (g := gName 5) rfl sc_law_great_right.nd rfl rfl (sw_true rfl rfl rfl (by decide +kernel)) (pi_range1 rfl T.z_range (pa_cons pe_int pa_nil)) (blkOk_by (N := ["_law_box_here", "_law_pairs", "_law_table", "_law_pattern_here", "_law_turn", "_law_place"]) (sc := defScope s_law_great_right) (by decide +kernel)) (fun _ _ _ _ _ => pg_name (i := 5) sc_law_great_right.nd rfl (Or.inl rfl)) (fun _ _ _ _ _ => pts_nil) (fun _ _ _ _ _ => (pe_tup (pa_cons (pv 5) (pa_cons (pe_lst (pa_cons (pv 5) (pa_cons pe_non pa_nil))) pa_nil)))))
 (pss_cons (ps_if (pt_cmpR (op_neD hr.units) (pe_d D_read_bounds hc (hr.mono (by omega)) (by rfl) (fun _ => passN) (pa_cons (pe_d D_write_bounds hc (hr.mono (by omega)) (by rfl) (fun _ => passN) (pa_cons (pv 2) pa_nil)) pa_nil)) (pv 2) (nomark _))
  (pss_one (ps_ret pe_bl)) pss_nil)
 (pss_cons (ps_set (i := 3) sc_law_great_right.nd rfl (Or.inl rfl) (pe_op op_rep (pe_lst (pa_cons pe_str pa_nil)) (pe_op op_add pe_int (pe_d D__law_take hc (hr.mono (by omega)) (by rfl) (fun _ => passN) (pa_cons (pv 0) (pa_cons pe_int pa_nil))))))
 (pss_cons (ps_for (passes_of rfl) rfl (pi_range1 rfl T.z_range (pa_cons pe_int pa_nil)) (pg_name (i := 4) sc_law_great_right.nd rfl (Or.inl rfl))
  (pss_one (ps_set (i := 3) sc_law_great_right.nd rfl (Or.inl rfl) (pe_lst (pa_cons (pe_tup (pa_cons pe_str (pa_cons (pv 3) pa_nil))) pa_nil)))))
 (pss_cons (ps_set (i := 3) sc_law_great_right.nd rfl (Or.inl rfl) (pe_op op_cat (pv 3) (pe_op op_rep (pe_lst (pa_cons pe_str pa_nil)) pe_int)))
 (pss_one (ps_ret (pe_cmpR (op_eqB (room230 hr (by omega))) (pe_d D_read_pattern hc (hr.mono (by omega)) (by rfl) (fun _ => passN) (pa_cons (pe_d D_write_pattern hc (hr.mono (by omega)) (by rfl) (fun _ => passN) (pa_cons (pv 3) pa_nil)) pa_nil)) (pv 3) (nomark _))))))))))), ?_⟩
  have z16 := sizeLine_eq
  have z2 : 2 ≤ sizeLine := by omega
  refine ⟨z2, fun t1 h1 => ⟨z2, fun t2 h2 => ⟨z2, fun t3 h3 => ⟨by show 3 ≤ sizeLine; omega, fun L hL => ?_⟩⟩⟩⟩
  have m0 := ((((Mv.refl hb).new (o := .tup [.str "a", .str ""]) h1).new (o := .tup [.str "", .str "b"]) h2).new (o := .tup [.str "c", .str "d"]) h3).new (o := .lst [.ref t1, .ref t2, .ref t3]) hL
  have s0 := ((upd_new h1 (o := .tup [.str "a", .str ""])).trans (upd_new h2 (o := .tup [.str "", .str "b"]))).trans ((upd_new h3 (o := .tup [.str "c", .str "d"])).trans (upd_new hL (o := .lst [.ref t1, .ref t2, .ref t3])))
  refine ⟨_, rfl, p, 3, m, rfl, m0.box, by omega, by decide, by decide, fun d H1 d0 d1 u1 => ?_⟩
  have sa := (upd_new h1 (o := .tup [.str "a", .str ""])).trans ((upd_new h2 (o := .tup [.str "", .str "b"])).trans (upd_new h3 (o := .tup [.str "c", .str "d"])))
  have n1 := hb.ne h1
  have n2 := hb.ne (none_of (upd_new h1) h2)
  have n3 := hb.ne (none_of ((upd_new h1 (o := .tup [.str "a", .str ""])).trans (upd_new h2 (o := .tup [.str "", .str "b"]))) h3)
  have nL := hb.ne (none_of sa hL)
  have at1 : H1 t1 = some (.tup [.str "a", .str ""]) := by rw [u1.2 t1 n1]; exact upd_new hL _ _ (upd_new h3 _ _ (upd_new h2 _ _ upd_same))
  have at2 : H1 t2 = some (.tup [.str "", .str "b"]) := by rw [u1.2 t2 n2]; exact upd_new hL _ _ (upd_new h3 _ _ upd_same)
  have at3 : H1 t3 = some (.tup [.str "c", .str "d"]) := by rw [u1.2 t3 n3]; exact upd_new hL _ _ upd_same
  have atL : H1 L = some (.lst [.ref t1, .ref t2, .ref t3]) := by rw [u1.2 L nL]; exact upd_same
  have e1 : Ev H H1 p := (Ev.refl.same s0).turn u1
  have tb1 := tab_turn m0.box u1 (tb.ext s0)
  have pr0 : PrAt H1 [.ref t1, .ref t2, .ref t3] [("a", ""), ("", "b"), ("c", "d")] := .cons at1 (.cons at2 (.cons at3 .nil))
  have ok0 : ∀ e ∈ [(("a" : Str), ("" : Str)), ("", "b"), ("c", "d")], PrOk e.1 e.2 := by
    have ha : Sym "a" := .inr ⟨97, by decide +kernel, by decide⟩
    have hb' : Sym "b" := .inr ⟨98, by decide +kernel, by decide⟩
    have hc' : Sym "c" := .inr ⟨99, by decide +kernel, by decide⟩
    have hd : Sym "d" := .inr ⟨100, by decide +kernel, by decide⟩
    intro e he
    simp only [List.mem_cons, List.not_mem_nil, or_false] at he
    rcases he with rfl | rfl | rfl
    · exact ⟨ha, .inl rfl, by decide +kernel⟩
    · exact ⟨.inl rfl, hb', by decide +kernel⟩
    · exact ⟨hc', hd, by decide +kernel⟩
  obtain ⟨d', rfl⟩ := Int.eq_ofNat_of_zero_le d0
  refine ⟨_, _, rfl, rfl, _, rfl, L, _, rfl, SqL.of atL, fun L2 hL2 => ?_⟩
  rw [show (1 : Int) + ((d' : Nat) : Int) = ((1 + d' : Nat) : Int) by omega, cut_to (by show 1 + d' ≤ 3; omega)]
  have lc : ([V.ref t1, .ref t2, .ref t3].take (1 + d')).length ≤ 3 := by rw [List.length_take]; show min (1 + d') 3 ≤ 3; omega
  refine ⟨_, _, _, rfl, rfl, upd_same, by decide, by decide, by show _ * 1000 ≤ sizeLine; omega, fun D hD => ?_⟩
  have s2 := (upd_new hL2 (o := .lst ([V.ref t1, .ref t2, .ref t3].take (1 + d')))).trans (upd_new hD (o := .lst (List.replicate (1000 : Int).toNat ([V.ref t1, .ref t2, .ref t3].take (1 + d'))).flatten))
  have pr := ((pr0.take (1 + d')).reps (1000 : Int).toNat).same s2
  have ok1 : ∀ e ∈ (List.replicate (1000 : Int).toNat ([(("a" : Str), ("" : Str)), ("", "b"), ("c", "d")].take (1 + d'))).flatten, PrOk e.1 e.2 := fun e he => by
    obtain ⟨l, hl, he⟩ := List.mem_flatten.mp he
    rw [(List.mem_replicate.mp hl).2] at he
    exact ok0 e (List.mem_of_mem_take he)
  have ll : (List.replicate (1000 : Int).toNat ([(("a" : Str), ("" : Str)), ("", "b"), ("c", "d")].take (1 + d'))).flatten.length ≤ 3500 := by
    rw [List.length_flatten, List.map_replicate, List.sum_replicate_nat, List.length_take]
    show 1000 * min (1 + d') 3 ≤ 3500
    omega
  generalize (List.replicate (1000 : Int).toNat ([(("a" : Str), ("" : Str)), ("", "b"), ("c", "d")].take (1 + d'))).flatten = ps at pr ok1 ll
  have hD2 : upd (upd H1 L2 (.lst ([V.ref t1, .ref t2, .ref t3].take (1 + d')))) D (.lst (List.replicate (1000 : Int).toNat ([V.ref t1, .ref t2, .ref t3].take (1 + d'))).flatten) D = some (.lst (List.replicate (1000 : Int).toNat ([V.ref t1, .ref t2, .ref t3].take (1 + d'))).flatten) := upd_same
  have e2 := e1.same s2
  have tb2 := tb1.ext s2
  have b2 := box_same u1.1 s2
  generalize (List.replicate (1000 : Int).toNat ([V.ref t1, .ref t2, .ref t3].take (1 + d'))).flatten = us at pr hD2 e2 tb2 b2 ⊢
  generalize upd (upd H1 L2 (.lst ([V.ref t1, .ref t2, .ref t3].take (1 + d')))) D (.lst us) = H2 at pr hD2 e2 tb2 b2 ⊢
  refine ⟨_, rfl, true, D, us, ps, rfl, hD2, pr, ok1, ll, fun H3 s3 => ?_⟩
  refine ⟨ps, rfl, ok1, ll, tb2.ext s3, fun D3 H4 us4 x4 tb4 hD4 h4 _ da4 => ?_⟩
  have e4 := (e2.same s3).ext x4
  obtain ⟨lay, shp⟩ := shp_all (sml_mem (f := prD) fun e he => sml_pr (ok1 e he)) (by decide)
  have hD5 : H4 D = some (.lst us) := x4 _ _ (s3 _ _ hD2) (fun ps z => nomatch z)
  refine ⟨_, rfl, .list (ps.map prD), .list (ps.map prD), .lst (SqL.of h4) (daL_dp da4 lay), .lst (SqL.of hD5) (daL_dp (daL_ext (K := K) x4 (pr_da (pr.same s3))) lay), shp, shp, _, rfl, ?_⟩
  rw [SeqAt.eqv_refl (.list (ps.map prD)) lay]
  refine iteF ?_
  -- a table of bounds
  refine ⟨6000, rfl, by decide, by decide, fun B hB => ?_⟩
  refine lc_it walk_range (fun i H' => ∃ (us : List V) (l : List (Nat × List (Option Nat))) (G : Hp), H' B = some (.lst us) ∧ l.length = i ∧ EnAt G true us l ∧ Fr H4 G H' ∧ G B = none ∧ Same H4 H' ∧ ∀ e ∈ l, EnOk e ∧ e.2.length = 2)
    ⟨[], [], fun _ => none, upd_same, rfl, .nil, ⟨(fun _ _ z => nomatch z), (fun _ z => absurd rfl z)⟩, rfl, upd_new hB, fun e he => nomatch he⟩ (fun _ _ _ _ => trivial) ?_ ?_
  · rintro i x H5 H5' hi ⟨bs, l, G, hB5, ln, en, fr, gB, s5, ok5⟩ ⟨e, rfl⟩
    subst e
    have i6 : i < 6000 := hi
    have lu := en.len
    refine ⟨rfl, yes_go ⟨_, rfl, _, rfl, z2, fun C hC => ⟨z2, fun t ht => ?_⟩⟩⟩
    have CB : C ≠ B := fun z => by rw [z, hB5] at hC; exact nomatch hC
    have hC0 : H4 C = none := none_of s5 hC
    have tB : t ≠ B := fun z => by
      rw [z, upd_ne CB.symm, hB5] at ht
      exact nomatch ht
    have tC : t ≠ C := fun z => by rw [z, upd_same] at ht; exact nomatch ht
    have ht5 : H5' t = none := by rw [upd_ne tC] at ht; exact ht
    have f6 := (fr.add (o := .lst [.int (0 + (i : Nat)), .non]) hC0).add (o := .tup [.int (0 + (i : Nat)), .ref C]) (none_of s5 ht5)
    have gB2 : upd (upd G C (.lst [.int (0 + (i : Nat)), .non])) t (.tup [.int (0 + (i : Nat)), .ref C]) B = none := by rw [upd_ne tB.symm, upd_ne CB.symm]; exact gB
    have sG : Same G (upd (upd G C (.lst [.int (0 + (i : Nat)), .non])) t (.tup [.int (0 + (i : Nat)), .ref C])) := (upd_new (fr.none hC)).trans (upd_new (by rw [upd_ne tC]; exact fr.none ht5))
    have ei : (0 : Int) + (i : Nat) = (i : Nat) := by omega
    refine ⟨bs, by rw [upd_ne tB.symm, upd_ne CB.symm]; exact hB5, by omega, bs ++ [.ref t], l ++ [(i, [some i, none])], _, upd_same, by rw [List.length_append, ln]; rfl, (en.same sG).snoc (by rw [upd_same, ei]) (by rw [upd_ne tC.symm, upd_same, ei]; rfl), f6.put gB2, gB2, fun b o e => ?_, fun e he => ?_⟩
    · rw [upd_ne (ne_of_none e hB)]
      exact upd_new ht _ _ (upd_new hC _ _ (s5 _ _ e))
    · rcases List.mem_append.mp he with he | he
      · exact ok5 e he
      · obtain rfl := List.mem_singleton.mp he
        refine ⟨⟨show i < 1000000000000000000000000000000 by omega, fun o ho => ?_, by show 2 ≤ 90; omega⟩, rfl⟩
        rcases List.mem_cons.mp ho with rfl | ho
        · exact show i < 1000000000000000000000000000000 by omega
        · rw [List.mem_singleton.mp ho]
          exact trivial
  rintro H5 ⟨bs, l, G, hB5, ln, en, fr, gB, s5, ok5⟩
  have l7 : l.length ≤ 7000 := by rw [ln]; decide
  refine ⟨_, rfl, true, .ref B, l, 2, rfl, ⟨B, bs, rfl, hB5, en.same fr.s⟩, ok5, l7, by decide, fun H6 s6 => ?_⟩
  refine ⟨l, 2, rfl, ok5, l7, by decide, fun D7 H7 us7 qs7 s7 hD7 h7 _ _ _ da7 => ?_⟩
  obtain ⟨lay2, shp2⟩ := shp_all (sml_mem (f := enD) fun e he => sml_en true (ok5 e he).1 (ok5 e he).2 (by decide)) (by decide)
  have hB7 : H7 B = some (.lst bs) := s7 _ _ (s6 _ _ hB5)
  have en7 := en.same (fr.s.trans (s6.trans s7))
  refine ⟨_, rfl, .list (l.map enD), .list (l.map enD), .lst (SqL.of h7) (daL_dp da7 lay2), .lst (SqL.of hB7) (daL_dp (en_da en7) lay2), shp2, shp2, _, rfl, ?_⟩
  rw [SeqAt.eqv_refl (.list (l.map enD)) lay2]
  refine iteF ?_
  -- a pattern
  have s47 := s5.trans (s6.trans s7)
  have b7 := box_same (box_ext (box_same b2 s3) x4) s47
  have e7 := e4.same s47
  have tb7 := tb4.ext s47
  refine ⟨by show 1 ≤ sizeLine; omega, fun A1 hA1 => ?_⟩
  have A1p : A1 ≠ p := b7.ne hA1
  refine ⟨_, rfl, p, 5, _, rfl, box_same b7 (upd_new hA1), by omega, by decide, by decide, fun g H8 g0 g1 u8 => ?_⟩
  have hA8 : H8 A1 = some (.lst [.str "a"]) := by rw [u8.2 A1 A1p]; exact upd_same
  have e8 := (e7.new (o := .lst [.str "a"]) hA1).turn u8
  have tb8 := tab_turn (box_same b7 (upd_new hA1)) u8 (tb7.ext (upd_new hA1))
  refine ⟨_, _, rfl, rfl, _, _, _, rfl, rfl, hA8, by omega, by omega, by show 1 * (1 + g).toNat ≤ sizeLine; omega, fun A2 hA2 => ?_⟩
  have pa : PtAt (upd H8 A2 (.lst (List.replicate (1 + g).toNat [V.str "a"]).flatten)) true (.str "a") (.ch 97) := .ch
  have pA := ptsA_reps pa (1 + g).toNat
  have okA := reps_ok (p := .ch 97) (show low 97 = true by decide) rfl rfl (1 + g).toNat
  have gl : 1 ≤ (List.replicate (1 + g).toNat (Pt.ch 97)).length := by rw [List.length_replicate]; omega
  have g5 : (1 + g).toNat ≤ 5 := by omega
  generalize (1 + g).toNat = gn at pA okA gl g5 ⊢
  refine ⟨100, rfl, by decide, by decide, ?_⟩
  refine for_range (fun i σ H' => ∃ (o4 : Option V) (v : V), σ = [some (.ref p), some (.ref D), some (.ref B), some v, o4, none] ∧ LiAt H' true v (nest i (List.replicate gn (.ch 97))) ∧ Same H8 H')
    ⟨none, _, rfl, ⟨A2, _, rfl, upd_same, pA⟩, upd_new hA2⟩ ?_ ?_
  · rintro i _ H9 hi ⟨o4, v, rfl, la, s9⟩
    refine ⟨_, rfl, z2, fun t ht => ⟨by show 1 ≤ sizeLine; omega, fun N hN => ?_⟩⟩
    have st : Same H9 (upd H9 t (.tup [.str "repeat", v])) := upd_new ht
    have sn : Same (upd H9 t (.tup [.str "repeat", v])) (upd (upd H9 t (.tup [.str "repeat", v])) N (.lst [.ref t])) := upd_new hN
    obtain ⟨q0, vs0, rfl, hq0, pq⟩ := la.same (st.trans sn)
    exact ⟨_, _, rfl, ⟨N, [.ref t], rfl, upd_same, .cons (.rep (sn _ _ upd_same) hq0 pq) .nil⟩, s9.trans (st.trans sn)⟩
  rintro _ H9 ⟨o4, v, rfl, ⟨N, vs, rfl, hN, pN⟩, s9⟩
  have hN : H9 N = some (.lst vs) := hN
  refine ⟨_, rfl, by show 1 ≤ sizeLine; omega, fun Z hZ => ⟨_, _, _, rfl, rfl, upd_same, by decide, by decide, by show 1 * 2500 ≤ sizeLine; omega, fun Z2 hZ2 => ?_⟩⟩
  have sz : Same H9 (upd (upd H9 Z (.lst [.str "z"])) Z2 (.lst (List.replicate (2500 : Int).toNat [V.str "z"]).flatten)) := (upd_new hZ).trans (upd_new hZ2)
  have pz : PtAt (upd (upd H9 Z (.lst [.str "z"])) Z2 (.lst (List.replicate (2500 : Int).toNat [V.str "z"]).flatten)) true (.str "z") (.ch 122) := .ch
  have pZ := ptsA_reps pz (2500 : Int).toNat
  have okZ := reps_ok (p := .ch 122) (show low 122 = true by decide) rfl rfl (2500 : Int).toNat
  have hZ3 : (upd (upd H9 Z (.lst [.str "z"])) Z2 (.lst (List.replicate (2500 : Int).toNat [V.str "z"]).flatten)) Z2 = some (.lst (List.replicate (2500 : Int).toNat [V.str "z"]).flatten) := upd_same
  have ln := pN.length
  have lz := pZ.length
  have okN := nest_ok gl okA.1 (100 : Int).toNat
  have nn := nods_len (nest (100 : Int).toNat (List.replicate gn (.ch 97)))
  have n1 : deps (nest (100 : Int).toNat (List.replicate gn (.ch 97))) = 100 := by rw [okN.2.2.1, okA.2.1]; rfl
  have n2 : nods (nest (100 : Int).toNat (List.replicate gn (.ch 97))) ≤ 105 := by rw [okN.2.2.2, okA.2.2]; show 100 + gn ≤ 105; omega
  have z25 : (2500 : Int).toNat = 2500 := rfl
  rw [List.length_replicate] at lz
  generalize (List.replicate (2500 : Int).toNat [V.str "z"]).flatten = vz at pZ lz hZ3 sz ⊢
  generalize upd (upd H9 Z (.lst [.str "z"])) Z2 (.lst vz) = H10 at pZ hZ3 sz ⊢
  refine ⟨N, Z2, vs, vz, rfl, rfl, sz _ _ hN, hZ3, by omega, fun W hW => ?_⟩
  have sw := upd_new hW (o := .lst (vs ++ vz))
  have pW := ptsA_app (pN.same (sz.trans sw)) (pZ.same sw)
  have good : Good 5000 100 (nest (100 : Int).toNat (List.replicate gn (.ch 97)) ++ List.replicate (2500 : Int).toNat (.ch 122)) := by
    refine ⟨?_, wfs_app okN.2.1 okZ.1, ?_, ?_⟩
    · rw [List.length_append]
      have := okN.1
      omega
    · rw [deps_app, n1, okZ.2.1]
      decide
    · rw [nods_app, okZ.2.2, z25]
      omega
  generalize nest (100 : Int).toNat (List.replicate gn (.ch 97)) ++ List.replicate (2500 : Int).toNat (.ch 122) = pl at pW good
  have hW2 : upd H10 W (.lst (vs ++ vz)) W = some (.lst (vs ++ vz)) := upd_same
  have s11 := s9.trans (sz.trans sw)
  generalize upd H10 W (.lst (vs ++ vz)) = H11 at pW hW2 s11 ⊢
  refine ⟨_, rfl, .ref W, pl, rfl, ⟨true, ⟨W, _, rfl, hW2, pW⟩, good⟩, fun H12 s12 => ?_⟩
  refine ⟨pl, rfl, good, fun D13 H13 U us13 qs13 sU sU2 hU h13 gr _ => ?_⟩
  have s13 := s12.trans (sU.trans sU2)
  obtain ⟨_, lay3, _, dp3⟩ := sml_pts true pl good.wf
  have gd := good.dp
  refine ⟨_, rfl, .list (pDs true pl), .lst (SqL.of h13) (daL_dp (pts_da (gr.pts.same sU2)) lay3), .lst (SqL.of (s13 _ _ hW2)) (daL_dp (pts_da (pW.same s13)) lay3), lay3, by show PyData.depthAll (pDs true pl) + 1 ≤ 220; omega, ?_⟩
  exact q H13 ((e8.same s11).same s13) ((tb8.ext s11).ext s13)
end
end KW

namespace KW
open PySem PySem.Spec PyProof.Rows L2 Gd Zn KM KP LamX
/-! ### what of it stands on, and what the three of them ask of _law_both -/
section
variable {H H1 : Hp} {b : Bool}
mutual
theorem pt_ext (e : ExtN H H1) : ∀ {v : V} {p : Pt}, PtAt H b v p → PtAt H1 b v p
  | _, _, .ch => .ch
  | _, _, .rep h g t => .rep (e _ _ h (fun ps z => nomatch z)) (e _ _ g (fun ps z => by cases b <;> exact nomatch z)) (pts_ext e t)
theorem pts_ext (e : ExtN H H1) : ∀ {vs : List V} {l : List Pt}, PtsAt H b vs l → PtsAt H1 b vs l
  | _, _, .nil => .nil
  | _, _, .cons h r => .cons (pt_ext e h) (pts_ext e r)
end
theorem li_ext (e : ExtN H H1) {v : V} {l : List Pt} : LiAt H b v l → LiAt H1 b v l
  | ⟨q, vs, ev, h, r⟩ => ⟨q, vs, ev, e _ _ h (fun ps z => by cases b <;> exact nomatch z), pts_ext e r⟩
theorem en_ext (e : ExtN H H1) : ∀ {vs : List V} {l : List (Nat × List (Option Nat))}, EnAt H b vs l → EnAt H1 b vs l
  | _, _, .nil => .nil
  | _, _, .cons h g r => .cons (e _ _ h (fun ps z => nomatch z)) (e _ _ g (fun ps z => by cases b <;> exact nomatch z)) (en_ext e r)
theorem pr_ext (e : ExtN H H1) {vs : List V} {l : List (Str × Str)} (h : PrAt H vs l) : PrAt H1 vs l := h.tups fun c xs z => e _ _ z (fun ps z => nomatch z)
end
theorem ptsA_take {H : Hp} {b : Bool} : ∀ {vs : List V} {l : List Pt} (n : Nat), PtsAt H b vs l → PtsAt H b (vs.take n) (l.take n)
  | _, _, 0, _ => by rw [List.take_zero, List.take_zero]; exact .nil
  | _, _, n + 1, .nil => by rw [List.take_nil, List.take_nil]; exact .nil
  | _, _, n + 1, .cons h r => by rw [List.take_succ_cons, List.take_succ_cons]; exact .cons h (ptsA_take n r)
theorem enA_take {H : Hp} {b : Bool} : ∀ {vs : List V} {l : List (Nat × List (Option Nat))} (n : Nat), EnAt H b vs l → EnAt H b (vs.take n) (l.take n)
  | _, _, 0, _ => by rw [List.take_zero, List.take_zero]; exact .nil
  | _, _, n + 1, .nil => by rw [List.take_nil, List.take_nil]; exact .nil
  | _, _, n + 1, .cons h g r => by rw [List.take_succ_cons, List.take_succ_cons]; exact .cons h g (enA_take n r)
theorem enA_app {H : Hp} {b : Bool} : ∀ {vs us : List V} {l m : List (Nat × List (Option Nat))}, EnAt H b vs l → EnAt H b us m → EnAt H b (vs ++ us) (l ++ m)
  | _, _, _, _, .nil, g => g
  | _, _, _, _, .cons h k r, g => .cons h k (enA_app r g)
theorem wfs_take : ∀ {l : List Pt} (n : Nat), Wfs l → Wfs (l.take n) ∧ deps (l.take n) ≤ deps l ∧ nods (l.take n) ≤ nods l
  | [], n, _ => by rw [List.take_nil]; exact ⟨trivial, Nat.le_refl _, Nat.le_refl _⟩
  | p :: l, 0, _ => by rw [List.take_zero]; exact ⟨trivial, Nat.zero_le _, Nat.zero_le _⟩
  | p :: l, n + 1, h => by
    obtain ⟨a, b, c⟩ := wfs_take n h.2
    rw [List.take_succ_cons]
    refine ⟨⟨h.1, a⟩, ?_, ?_⟩
    · show max p.dep (deps (l.take n)) ≤ max p.dep (deps l)
      omega
    · show p.nod + nods (l.take n) ≤ p.nod + nods l
      omega
/-- items of a repetition's list -/
theorem sim_pts {H : Hp} {b : Bool} : ∀ {vs : List V} {l : List Pt}, PtsAt H b vs l → (∀ y ∈ vs, Sim H y) ∧ vs.countP (isTx sMore) = 0
  | _, _, .nil => ⟨(fun y hy => nomatch hy), rfl⟩
  | _, _, .cons (v := v) h r => by
    obtain ⟨a, c⟩ := sim_pts r
    have s : Sim H v ∧ isTx sMore v = false := by
      cases h with
      | ch =>
        refine ⟨.str _, ?_⟩
        show ((⟨#[_]⟩ : Str) == sMore) = false
        refine beq_eq_false_iff_ne.mpr fun z => ?_
        have := congrArg Str.length z
        rw [show sMore.length = 4 by decide +kernel] at this
        exact absurd (show 1 = 4 from this) (by decide)
      | rep h1 => exact ⟨.tup h1, rfl⟩
    refine ⟨fun y hy => (List.mem_cons.mp hy).elim (fun e => e ▸ s.1) (a y), ?_⟩
    rw [List.countP_cons, c, s.2]
    rfl
theorem grp_fnd {U : Hp} {N : Nat} {vs : List V} {l : List Pt} {qs : List Addr} (g : Grp U vs l qs) (hn : nods l ≤ 10000) : Fnd U vs qs := by
  induction g with
  | nil => exact .nil
  | @ch vs l qs c _ ih =>
    rw [nods_app] at hn
    have := Fnd.snoc (H := U) (vs := [.str ⟨#[c]⟩]) (.txt .nil) (ih (by omega)) (fun q hq => List.not_mem_nil)
    rw [List.append_nil] at this
    exact this
  | @rep vs ws l k qs t q _ h1 h2 h3 h4 ih =>
    rw [nods_app] at hn
    obtain ⟨a, c⟩ := sim_pts h3
    have lk := h3.length
    have nk := nods_len k
    have e : nods [Pt.rep k] = nods k + 1 + 0 := rfl
    refine Fnd.snoc (.own h1 h2 a c (by omega) List.not_mem_nil .nil) (ih (by omega)) fun q' hq' z => ?_
    obtain rfl := List.mem_singleton.mp z
    exact h4 hq'
theorem fnd_same {H H1 : Hp} (s : Same H H1) : ∀ {us : List V} {qs : List Addr}, Fnd H us qs → Fnd H1 us qs
  | _, _, .nil => .nil
  | _, _, .txt h => .txt (fnd_same s h)
  | _, _, .pair e h => .pair (s _ _ e) (fnd_same s h)
  | _, _, .own e1 e2 e3 e4 e5 e6 h => .own (s _ _ e1) (s _ _ e2) (fun y hy => by
      cases e3 y hy with
      | non => exact .non
      | int i => exact .int i
      | str x => exact .str x
      | tup e => exact .tup (s _ _ e)) e4 e5 e6 (fnd_same s h)
theorem grp_there {U : Hp} {vs : List V} {l : List Pt} {qs : List Addr} (g : Grp U vs l qs) : ∀ q ∈ qs, ∃ o, U q = some o := by
  induction g with
  | nil => exact fun q hq => nomatch hq
  | ch _ ih => exact ih
  | rep _ h1 h2 h3 h4 ih =>
    intro q hq
    rcases List.mem_append.mp hq with z | z
    · exact ih q z
    · obtain rfl := List.mem_singleton.mp z
      exact ⟨_, h2⟩
/-! the texts -/
theorem txl {n k : Nat} {ls : List Str} (h : ∀ y ∈ ls, Tx n y) (hl : ls.length ≤ k) (hm : k * n + k * 1 ≤ 1000000) : Tx 1000000 (jL ls) := (Tx.join (n := n) (m := 1) (k := k) (.of (by decide +kernel)) h hl).mono hm
theorem sc_tx {l : List (Str × Str)} (ho : ∀ q ∈ l, PrOk q.1 q.2) (hl : l.length ≤ 8) : Tx 1000000 (scText l) := by
  refine txl (n := 4100) (k := 9) (fun y hy => ?_) (by rw [List.length_cons, List.length_map]; omega) (by decide)
  rcases List.mem_cons.mp hy with rfl | hy
  · exact line_len (head_wd wd_scr (by omega)) (show 2 ≤ 100 by decide)
  · obtain ⟨q, hq, rfl⟩ := List.mem_map.mp hy
    exact scLine_tx (ho q hq)
theorem bo_tx {l : List (Nat × List (Option Nat))} {m : Nat} (ho : ∀ e ∈ l, EnOk e ∧ e.2.length = m) (hl : l.length ≤ 20) (m10 : m ≤ 10) : Tx 1000000 (boText l) := by
  have hn : l.length < 1000000000000000000000000000000 := by omega
  refine txl (n := 4100) (k := 21) (fun y hy => ?_) (by rw [List.length_cons, List.length_map]; omega) (by decide)
  rcases List.mem_cons.mp hy with rfl | hy
  · refine line_len (fun x hx => ?_) (show 2 ≤ 100 by decide)
    rcases List.mem_cons.mp hx with rfl | hx
    · exact wd_bnd
    · obtain rfl := List.mem_singleton.mp hx
      exact wd_nw hn
  · obtain ⟨e, he, rfl⟩ := List.mem_map.mp hy
    exact line_len (en_wd (ho e he).1) (by rw [List.length_cons, List.length_map, (ho e he).2]; omega)
theorem pa_tx {l : List Pt} (hw : Wfs l) (h : nods l ≤ 5000) : Tx 1000000 (paText l) := by
  have h3 := plns_len l
  refine txl (n := 8) (k := 100001) (fun y hy => ?_) (by rw [List.length_cons]; omega) (by decide)
  obtain ⟨ws, w0, w1, w2, rfl⟩ := pa_ok hw y hy
  refine ⟨?_, (line_len w1 w2).asc⟩
  rcases List.mem_cons.mp hy with z | z
  · rw [z]
    decide +kernel
  · exact plns8 l _ z
end KW

namespace KW
open PySem L2 Gd Zn KM KP LamX
def spLaw (K : PySem.W.Frag) (PT : Addr) : Sp := fun vs H Q _ => ∃ (a : Addr) (ns : List Int), vs = [.ref a] ∧ SqL K H a (ns.map V.int) ∧ ns.length ≤ 63 ∧ TabS H PT qL ∧ ∀ H', Q (.bl true) H'
theorem cutT (xs : List V) (n : Nat) : cutV xs none (some ((n : Nat) : Int)) = xs.take n := by
  rcases Nat.le_total n xs.length with h | h
  · exact cut_to h
  · rw [List.take_of_length_le h]
    unfold cutV
    rw [HT.sIx_nat, Nat.min_eq_right h]
    show (xs.drop 0).take (xs.length - 0) = xs
    rw [List.drop_zero, Nat.sub_zero, List.take_length]
theorem en_tups {H H1 : Hp} (e : Tups H H1) : ∀ {vs : List V} {l : List (Nat × List (Option Nat))}, EnAt H false vs l → EnAt H1 false vs l
  | _, _, .nil => .nil
  | _, _, .cons h g r => .cons (e _ _ h) (e _ _ g) (en_tups e r)
def spText : Sp := fun vs H Q _ => ∃ (p : Addr) (us : List V) (l : List (Str × Str)), vs = [.ref p] ∧ H p = some (.lst us) ∧ PrAt H us l ∧ (∀ q ∈ l, PrOk q.1 q.2) ∧ l.length ≤ 3500 ∧ ∀ H', Same H H' → Q (.str (scText l)) H'
theorem sq_keep {K : PySem.W.Frag} {H H' : Hp} {a : Addr} {xs : List V} (h : SqL K H a xs) (k : ∀ o, H a = some o → (∀ ps, o ≠ .tbl ps) → H' a = some o) : SqL K H' a xs := by
  rcases h with (h | ⟨o, h⟩) | h
  · exact .inl (.inl (k _ h (fun ps z => nomatch z)))
  · exact .inl (.inr ⟨o, k _ h (fun ps z => nomatch z)⟩)
  · exact .inr h
section
variable {P : Program} {w : World} {K : PySem.W.Frag} {mg : Str → Option Value} {base : Heap}
/-- _law_both, for the three of them -/
def spBoth3 (K : PySem.W.Frag) (PT a1 b1 a2 b2 a3 b3 : Addr) : Sp := fun vs H Q E =>
  spBoth K PT a1 b1 (fun vs H Q => spWrS vs H Q E0) (fun vs H Q => spReadS K PT vs H Q E0) vs H Q E ∨ spBoth K PT a2 b2 (fun vs H Q => spWrP vs H Q E0) (fun vs H Q => spReadP vs H Q E0) vs H Q E ∨
  spBoth K PT a3 b3 (fun vs H Q => spWrB vs H Q E0) (fun vs H Q => spReadB K vs H Q E0) vs H Q E
abbrev slaw : Stmt := top 67
theorem sclaw : FnScope ["_law_script_here", "_law_k", "_law_box_here", "_law_pairs", "_law_pattern_here", "_law_table", "_law_due", "_law_same", "_law_state", "_law_costs"] ["_law_script_here"] (defScope slaw) := ⟨rfl, rfl, rfl, by decide +kernel, rfl, by decide +kernel, by decide +kernel⟩
theorem ok_law {f g1 g2 g3 g4 g5 g6 g7 g8 g9 g10 g11 g12 g13 g14 g15 g16 g17 g18 PT : Addr} {fd d1 d2 d3 d4 d5 d6 d7 d8 d9 d10 d11 d12 d13 d14 d15 d16 d17 d18 : FuncData} (F : Fun K "law" "law" slaw f fd) (T : Txt K mg base)
    (D__law_cell : Df P w K mg base CX0 1 "_law_cell" g1 d1 ["_law_script_here", "_law_k"] (spScr K)) (D__law_box : Df P w K mg base CX0 1 "_law_box" g2 d2 ["_law_cell_here"] spBoxC) (D__law_take : Df P w K mg base CX0 1 "_law_take" g3 d3 ["_law_box_here", "_law_many"] spTakeC)
    (D__law_script : Df P w K mg base CX0 2 "_law_script" g4 d4 ["_law_box_here"] spScript) (D__law_pattern : Df P w K mg base CX0 7 "_law_pattern" g5 d5 ["_law_box_here", "_law_deep"] (spPat 5)) (D__law_bounds : Df P w K mg base CX0 2 "_law_bounds" g6 d6 ["_law_box_here"] spBounds)
    (D_write_script : Df P w K mg base CX0 4 "write_script" g7 d7 ["script"] spWrS) (D_read_script : Df P w K mg base CX0 7 "read_script" g8 d8 ["text"] (spReadS K PT))
    (D_write_pattern : Df P w K mg base CX0 150 "write_pattern" g9 d9 ["pattern"] spWrP) (D_read_pattern : Df P w K mg base CX0 150 "read_pattern" g10 d10 ["text"] spReadP)
    (D_write_bounds : Df P w K mg base CX0 5 "write_bounds" g11 d11 ["table"] spWrB) (D_read_bounds : Df P w K mg base CX0 7 "read_bounds" g12 d12 ["text"] (spReadB K))
    (D__law_both : Df P w K mg base CX0 151 "_law_both" g13 d13 ["_law_write", "_law_read", "_law_value", "_law_same", "_law_due"] (spBoth3 K PT g7 g8 g9 g10 g11 g12))
    (D__law_script_text : Df P w K mg base CX0 2 "_law_script_text" g14 d14 ["_law_pairs"] spText) (D__law_pattern_lines : Df P w K mg base CX0 150 "_law_pattern_lines" g15 d15 ["_law_pattern_here"] (spPln 100)) (D__law_tupled : Df P w K mg base CX0 150 "_law_tupled" g16 d16 ["_law_pattern_here"] (spTurn 100))
    (D__law_bounds_text : Df P w K mg base CX0 1 "_law_bounds_text" g17 d17 ["_law_table"] spBText) (D__law_great_right : Df P w K mg base CX0 151 "_law_great_right" g18 d18 ["_law_box_here"] (spGreat PT)) :
    FnG P w K mg base CX0 152 f fd ["_law_script_here"] (spLaw K PT) := by
  refine okG F sclaw (fun vs H Q E h => ?_) (fun cdv A outer s H vs Q E hc hr h => ?_)
  · obtain ⟨a, ns, rfl, _⟩ := h
    rfl
  obtain ⟨a, ns, rfl, ha, hns, tb, q⟩ := h
  refine ⟨_, (pss_cons (ps_for (passes_of rfl) rfl (pi_range1 rfl T.z_range (pa_cons (pe_callB (call_max2 rfl) (by rfl) T.z_max (by decide +kernel) (pa_cons pe_int (pa_cons (pe_callB (call_min2 rfl) (by rfl) T.z_min (by decide +kernel) (pa_cons pe_int (pa_cons (pe_callB call_len_seq (by rfl) T.z_len (by decide +kernel) (pa_cons (pv 0) pa_nil)) pa_nil))) pa_nil))) pa_nil)) (pg_name (i := 1) sclaw.nd rfl (Or.inl rfl))
  (pss_cons (ps_set (i := 2) sclaw.nd rfl (Or.inl rfl) (pe_d D__law_box hc (hr.mono (by omega)) (by rfl) (fun _ => passN) (pa_cons (pe_d D__law_cell hc (hr.mono (by omega)) (by rfl) (fun _ => passN) (pa_cons (pv 0) (pa_cons (pv 1) pa_nil))) pa_nil)))
 (pss_cons (ps_par3 (i := 3) (j := 4) (l := 5) (by rfl) sclaw.nd rfl rfl rfl (by decide) (by decide) (by decide) rfl rfl rfl (pa_cons (pe_d D__law_script hc (hr.mono (by omega)) (by rfl) (fun _ => passN) (pa_cons (pv 2) pa_nil)) (pa_cons (pe_d D__law_pattern hc (hr.mono (by omega)) (by rfl) (fun _ => passN) (pa_cons (pv 2) (pa_cons pe_int pa_nil))) (pa_cons (pe_d D__law_bounds hc (hr.mono (by omega)) (by rfl) (fun _ => passN) (pa_cons (pv 2) pa_nil)) pa_nil))) (by rfl))
 (pss_cons (ps_par (i := 4) (j := 5) (by rfl) sclaw.nd rfl rfl (by decide) rfl rfl (pa_cons (pe_op op_cat (pv 4) (pe_slice sl_list (pv 4) po_none (po_some (pe_d D__law_take hc (hr.mono (by omega)) (by rfl) (fun _ => passN) (pa_cons (pv 2) (pa_cons pe_int pa_nil)))))) (pa_cons (pe_op op_cat (pv 5) (pe_slice sl_list (pv 5) po_none (po_some (pe_d D__law_take hc (hr.mono (by omega)) (by rfl) (fun _ => passN) (pa_cons (pv 2) (pa_cons pe_int pa_nil)))))) pa_nil)) (by rfl))
 (pss_cons (ps_if (pt_not (pt_val (pe_d D__law_both hc (hr.mono (by omega)) (by rfl) (fun _ => passN) (pa_cons (pe_k (by rfl) (defK D_write_script)) (pa_cons (pe_k (by rfl) (defK D_read_script)) (pa_cons (pv 3) (pa_cons (pe_callTy call_tuple_of (by rfl) T.z_tuple (by decide +kernel) (pa_cons (pv 3) pa_nil)) (pa_cons (pe_d D__law_script_text hc (hr.mono (by omega)) (by rfl) (fun _ => passN) (pa_cons (pv 3) pa_nil)) pa_nil))))))))
  (pss_one (ps_ret pe_bl)) pss_nil)
 (pss_cons (ps_set (i := 6) sclaw.nd rfl (Or.inl rfl) (pe_join pe_str (pe_op op_cat (pe_lst (pa_cons pe_str pa_nil)) (pe_d D__law_pattern_lines hc (hr.mono (by omega)) (by rfl) (fun _ => passN) (pa_cons (pv 4) pa_nil)))))
 (pss_cons (ps_if (pt_not (pt_val (pe_d D__law_both hc (hr.mono (by omega)) (by rfl) (fun _ => passN) (pa_cons (pe_k (by rfl) (defK D_write_pattern)) (pa_cons (pe_k (by rfl) (defK D_read_pattern)) (pa_cons (pv 4) (pa_cons (pe_d D__law_tupled hc (hr.mono (by omega)) (by rfl) (fun _ => passN) (pa_cons (pv 4) pa_nil)) (pa_cons (pv 6) pa_nil))))))))
  (pss_one (ps_ret pe_bl)) pss_nil)
 (pss_cons (ps_set (i := 7) sclaw.nd rfl (Or.inl rfl) (pe_callTy call_tuple_of (by rfl) T.z_tuple (by decide +kernel) (pa_cons (pe_lc (own := [("_law_state", 8), ("_law_costs", 9)]) (g := _) rfl sclaw.nd (pi_list (pv 5)) (blkOk_by (N := ["_law_script_here", "_law_k", "_law_box_here", "_law_pairs", "_law_pattern_here", "_law_table", "_law_due", "_law_same", "_law_state", "_law_costs"]) (sc := defScope slaw) (by decide +kernel)) (fun _ _ _ _ _ => (pg_tupK (K := K) (n := 2) rfl rfl (pgs_cons (pg_name (i := 8) sclaw.nd rfl (Or.inl rfl)) (pgs_cons (pg_name (i := 9) sclaw.nd rfl (Or.inl rfl)) pgs_nil)))) (fun _ _ _ _ _ => pts_nil) (fun _ _ _ _ _ => (pe_tup (pa_cons (pv 8) (pa_cons (pe_callTy (call_tupleK (K := K) rfl) (by rfl) T.z_tuple (by decide +kernel) (pa_cons (pv 9) pa_nil)) pa_nil))))) pa_nil)))
 (pss_cons (ps_if (pt_not (pt_val (pe_d D__law_both hc (hr.mono (by omega)) (by rfl) (fun _ => passN) (pa_cons (pe_k (by rfl) (defK D_write_bounds)) (pa_cons (pe_k (by rfl) (defK D_read_bounds)) (pa_cons (pv 5) (pa_cons (pv 7) (pa_cons (pe_d D__law_bounds_text hc (hr.mono (by omega)) (by rfl) (fun _ => passN) (pa_cons (pv 5) pa_nil)) pa_nil))))))))
  (pss_one (ps_ret pe_bl)) pss_nil)
 (pss_one (ps_if (PW.pt (pw_and (pt_cmpR op_eq (pv 1) pe_int (nomark _)) (pw_and (pt_cmpR op_eq (pe_d D__law_take hc (hr.mono (by omega)) (by rfl) (fun _ => passN) (pa_cons (pv 2) (pa_cons pe_int pa_nil))) pe_int (nomark _)) (pw_and1 (pt_not (pt_val (pe_d D__law_great_right hc (hr.mono (by omega)) (by rfl) (fun _ => passN) (pa_cons (pv 2) pa_nil))))))))
  (pss_one (ps_ret pe_bl)) pss_nil)))))))))))
 (pss_one (ps_ret pe_bl))), ?_⟩
  have z16 := sizeLine_eq
  refine ⟨_, rfl, a, _, rfl, .inl ha, _, _, rfl, _, _, rfl, _, rfl, ?_, ?_, ?_⟩
  · split <;> split <;> omega
  · split <;> split <;> omega
  refine for_range (fun i σ H' => ∃ o1 o2 o3 o4 o5 o6 o7, σ = [some (.ref a), o1, o2, o3, o4, o5, o6, o7, none, none] ∧ SqL K H' a (ns.map V.int) ∧ TabS H' PT qL) ⟨none, none, none, none, none, none, none, rfl, ha, tb⟩ ?_ (fun _ _ _ => q _)
  rintro i _ H1 hi ⟨o1, o2, o3, o4, o5, o6, o7, rfl, ha1, tb1⟩
  have hi8 : i < 1000 := by
    refine Nat.lt_of_lt_of_le hi ?_
    split <;> split <;> omega
  refine ⟨_, rfl, _, rfl, a, ns, _, rfl, ha1, by omega, by omega, fun z => ⟨z, rfl, fun p o hp hb => ?_⟩⟩
  have tb0 := tb1.ext (upd_new hp (o := o))
  have ha0 : SqL K (upd H1 p o) a (ns.map V.int) := sq_keep ha1 fun u e _ => upd_new hp _ _ e
  have hpa : ∀ u, upd H1 p o a = some u → SqL K H1 a (ns.map V.int) → True := fun _ _ _ => trivial
  have keepA : ∀ H', Ev (upd H1 p o) H' p → SqL K H' a (ns.map V.int) := fun H' e => by
    refine sq_keep ha1 fun u hu n => ?_
    have ap : a ≠ p := ne_of_none hu hp
    exact e a u ap (by rw [upd_ne ap]; exact hu) n
  generalize upd H1 p o = H0 at hb tb0 ha0 keepA ⊢
  -- drawn
  refine ⟨_, rfl, p, 0, rfl, hb, by decide, fun D1 H2 us l mv2 hD1 h2 pr ok ll => ?_⟩
  refine ⟨_, rfl, p, 5, _, rfl, mv2.box, by decide, by decide, by decide, fun v H3 G pl mv3 fr la good => ?_⟩
  refine ⟨_, rfl, p, _, rfl, mv3.box, by decide, fun D3 H4 G3 bv bl wd mv4 hD3 h4 fr3 en ok3 w4 l7 => ⟨_, _, _, rfl, ?_⟩⟩
  have D1p : D1 ≠ p := hb.ne hD1
  have D3p : D3 ≠ p := mv3.box.ne hD3
  have m4 := (mv2.trans mv3).trans mv4
  have pG : G p = none := fr.pool mv2.box
  have sG4 : Same G H4 := fun b u e => mv4.same _ _ (fun z => by rw [z, pG] at e; exact nomatch e) (fr.s _ _ e)
  have fr0 : Fr H0 G H4 := ⟨sG4, fun c hc => mv2.free hb (fr.n c hc)⟩
  have fb0 : Fr H0 G3 H4 := ⟨fr3.s, fun c hc => (mv2.trans mv3).free hb (fr3.n c hc)⟩
  have h24 : H4 D1 = some (.lst us) := mv4.same _ _ D1p (mv3.same _ _ D1p h2)
  have notP : ∀ {Hx : Hp} {n : Nat}, BoxC Hx p n → ∀ c xs, Hx c = some (.tup xs) → c ≠ p := fun b c xs e z => by
    obtain ⟨x, y, u, e2, _⟩ := b
    rw [z, e2] at e
    exact nomatch e
  have pr4 : PrAt H4 us l := (pr.tups fun c xs e => mv3.same _ _ (notP mv2.box c xs e) e).tups fun c xs e => mv4.same _ _ (notP mv3.box c xs e) e
  obtain ⟨q0, pv, rfl, hq0, pts⟩ := la
  have hq0 : G q0 = some (.lst pv) := hq0
  have q0p : q0 ≠ p := fun z => by rw [z, pG] at hq0; exact nomatch hq0
  have tb4 := tab_mv hb m4 tb0
  -- some of it twice
  refine ⟨_, rfl, _, rfl, _, rfl, p, 2, _, rfl, m4.box, by decide, by decide, by decide, fun e1 H5 e10 e11 t5 => ⟨_, rfl, q0, pv, rfl, SqL.of ((fr0.turn hb t5).s _ _ hq0), fun S1 hS1 => ?_⟩⟩
  have fr5 := fr0.turn hb t5
  have fb5 := fb0.turn hb t5
  have m5 := m4.turn t5
  obtain ⟨e1n, rfl⟩ := Int.eq_ofNat_of_zero_le e10
  have lpv := pts.length
  have ne1 := good.ne
  have nd1 := nods_len pl
  have gnd := good.nd
  have nn5 : Nn 5 = 1092 := by decide
  rw [cut_to (by omega)]
  have s6 := upd_new hS1 (o := .lst (pv.take e1n))
  refine ⟨q0, S1, pv, pv.take e1n, rfl, rfl, s6 _ _ (fr5.s _ _ hq0), upd_same, by rw [List.length_take]; omega, fun C1 hC1 => ?_⟩
  have s7 := upd_new hC1 (o := .lst (pv ++ pv.take e1n))
  have C1p : C1 ≠ p := hb.ne (m5.free hb (none_of s6 hC1))
  have m7 := (m5.ext s6).ext s7
  have hD35 : H5 D3 = some (.lst bv) := by rw [t5.2 D3 D3p]; exact h4
  have lbv := en.len
  refine ⟨_, rfl, _, rfl, _, rfl, p, 3, _, rfl, m7.box, by decide, by decide, by decide, fun e2 H8 e20 e21 t8 => ⟨_, rfl, D3, bv, rfl, SqL.of (by rw [t8.2 D3 D3p]; exact s7 _ _ (s6 _ _ hD35)), fun S2 hS2 => ?_⟩⟩
  obtain ⟨e2n, rfl⟩ := Int.eq_ofNat_of_zero_le e20
  have hD38 : H8 D3 = some (.lst bv) := by rw [t8.2 D3 D3p]; exact s7 _ _ (s6 _ _ hD35)
  have ecut : cutV bv none (some ((e2n : Nat) : Int)) = bv.take e2n := cutT _ _
  rw [ecut]
  have s9 := upd_new hS2 (o := .lst (bv.take e2n))
  refine ⟨D3, S2, bv, bv.take e2n, rfl, rfl, s9 _ _ hD38, upd_same, by rw [List.length_take]; omega, fun C2 hC2 => ⟨_, _, rfl, ?_⟩⟩
  have s10 := upd_new hC2 (o := .lst (bv ++ bv.take e2n))
  have m10 := ((m7.turn t8).ext s9).ext s10
  have fr8 : Fr H0 G H8 := Fr.turn ⟨fun b u e => s7 _ _ (s6 _ _ (fr5.s _ _ e)), fr5.n⟩ hb t8
  have fb8 : Fr H0 G3 H8 := Fr.turn ⟨fun b u e => s7 _ _ (s6 _ _ (fb5.s _ _ e)), fb5.n⟩ hb t8
  have tb8 := tab_turn m7.box t8 (((tab_turn m4.box t5 tb4).ext s6).ext s7)
  have d10 : upd (upd H8 S2 (.lst (bv.take e2n))) C2 (.lst (bv ++ bv.take e2n)) D1 = some (.lst us) := s10 _ _ (s9 _ _ (by rw [t8.2 D1 D1p]; exact s7 _ _ (s6 _ _ (by rw [t5.2 D1 D1p]; exact h24))))
  have pr10 : PrAt (upd (upd H8 S2 (.lst (bv.take e2n))) C2 (.lst (bv ++ bv.take e2n))) us l :=
    (((pr4.tups fun c xs e => (t5.2 c (notP m4.box c xs e)).trans e).same (s6.trans s7)).tups fun c xs e => (t8.2 c (notP m7.box c xs e)).trans e).same (s9.trans s10)
  have c10 : upd (upd H8 S2 (.lst (bv.take e2n))) C2 (.lst (bv ++ bv.take e2n)) C1 = some (.lst (pv ++ pv.take e1n)) := s10 _ _ (s9 _ _ (by rw [t8.2 C1 C1p]; exact upd_same))
  have pt10 := ptsA_app (pts.same (fr8.s.trans (s9.trans s10))) (ptsA_take e1n (pts.same (fr8.s.trans (s9.trans s10))))
  have en10 := enA_app (en.same (fb8.s.trans (s9.trans s10))) (enA_take e2n (en.same (fb8.s.trans (s9.trans s10))))
  have c2 : upd (upd H8 S2 (.lst (bv.take e2n))) C2 (.lst (bv ++ bv.take e2n)) C2 = some (.lst (bv ++ bv.take e2n)) := upd_same
  have tb10 := (tb8.ext s9).ext s10
  have good2 : Good 5000 100 (pl ++ pl.take e1n) := by
    obtain ⟨w1, w2, w3⟩ := wfs_take e1n good.wf
    have gd := good.dp
    refine ⟨by rw [List.length_append]; omega, wfs_app good.wf w1, ?_, ?_⟩
    · rw [deps_app]
      omega
    · rw [nods_app]
      omega
  have dep2 : deps (pl ++ pl.take e1n) ≤ 5 := by
    obtain ⟨w1, w2, w3⟩ := wfs_take e1n good.wf
    have gd := good.dp
    rw [deps_app]
    omega
  have ok10 : ∀ e ∈ bl ++ bl.take e2n, EnOk e ∧ e.2.length = wd := fun e he => (List.mem_append.mp he).elim (ok3 e) fun h => ok3 e (List.mem_of_mem_take h)
  have lb10 : (bl ++ bl.take e2n).length ≤ 14 := by rw [List.length_append, List.length_take]; omega
  have e10 : Ev H0 (upd (upd H8 S2 (.lst (bv.take e2n))) C2 (.lst (bv ++ bv.take e2n))) p := Ev.refl.mv m10
  have b10 := m10.box
  generalize upd (upd H8 S2 (.lst (bv.take e2n))) C2 (.lst (bv ++ bv.take e2n)) = H10 at d10 pr10 c10 pt10 en10 c2 tb10 e10 b10 ⊢
  generalize pl ++ pl.take e1n = pl2 at pt10 good2 dep2
  generalize bl ++ bl.take e2n = bl2 at en10 ok10 lb10
  generalize pv ++ pv.take e1n = pv2 at c10 pt10 ⊢
  generalize bv ++ bv.take e2n = bv2 at en10 c2 ⊢
  -- pairs
  refine ⟨_, rfl, _, rfl, D1, us, rfl, .inl ⟨SqL.of d10, fun t ht => ?_⟩⟩
  have s11 := upd_new ht (o := .tup us)
  refine ⟨_, rfl, D1, us, l, rfl, s11 _ _ d10, pr10.same s11, ok, by omega, fun H12 s12 => ?_⟩
  have s11' := s11.trans s12
  have d12 := s11' _ _ d10
  have t12 : H12 t = some (.tup us) := s12 _ _ upd_same
  have pr12 := pr10.same s11'
  have smp : ∀ d ∈ l.map prD, Sml 60 1 d := sml_mem (f := prD) fun e he => sml_pr (ok e he)
  have okp : ∀ b, Okd (seqD b (l.map prD)) := fun b => (sml_seq (m := 1000) b smp (by rw [List.length_map]; omega)).okd (by decide) (by decide)
  refine .inl ⟨.ref D1, .ref t, scText l, .list (l.map prD), .tuple (l.map prD), rfl, .lst d12 (pr_da pr12), .tup (SqT.of t12) (pr_da pr12), okp true, okp false, sc_tx ok ll, tb10.ext s11', ?_, ?_, fun H13 x13 tb13 => ⟨_, rfl, iteF ?_⟩⟩
  · rintro x hx Hx Qx ex kx
    rcases hx with rfl | rfl
    · exact ⟨true, D1, us, l, rfl, ex _ _ d12 (fun ps z => nomatch z), pr_ext ex pr12, ok, by omega, kx⟩
    · exact ⟨false, t, us, l, rfl, ex _ _ t12 (fun ps z => nomatch z), pr_ext ex pr12, ok, by omega, kx⟩
  · intro Hx Qx ex tx kx
    refine ⟨l, rfl, ok, by omega, tx, fun D Hy us' e' t' hD h' fd' da' => ?_⟩
    have ld := da'.length
    rw [List.length_map] at ld
    exact kx D Hy us' [] e' t' hD h' fd' (by omega) List.not_mem_nil (fun q hq => nomatch hq) (.lst h' da')
  -- a pattern
  have x13' := (ExtN.of s11').trans x13
  have c13 : H13 C1 = some (.lst pv2) := x13' _ _ c10 (fun ps z => nomatch z)
  have pt13 := pts_ext x13' pt10
  have c213 : H13 C2 = some (.lst bv2) := x13' _ _ c2 (fun ps z => nomatch z)
  have en13 := en_ext x13' en10
  have b13 := box_ext b10 x13'
  have e13 := e10.ext x13'
  have la13 : LiAt H13 true (.ref C1) pl2 := ⟨C1, pv2, rfl, c13, pt13⟩
  refine ⟨⟨_, rfl⟩, by show 1 ≤ sizeLine; omega, fun p1 h1 => ?_⟩
  have s14 := upd_new h1 (o := .lst [.str sPat])
  refine ⟨_, rfl, true, .ref C1, pl2, rfl, la13.same s14, good2, fun D H15 L => ?_⟩
  have nk := plns_len pl2
  have gn := good2.nd
  refine ⟨p1, D, _, _, rfl, rfl, L.same _ _ upd_same, L.at_, ?_, fun p2 h2 => ⟨_, p2, sPat :: plns pl2, rfl, rfl, .inl (SqL.of upd_same), ?_, ?_⟩⟩
  · rw [List.length_map]
    show 1 + _ ≤ _
    omega
  · exact pa_sum gn
  have s16 := s14.trans (L.same.trans (upd_new h2 (o := .lst ((sPat :: plns pl2).map V.str))))
  refine ⟨_, rfl, _, rfl, .ref C1, pl2, rfl, la13.same s16, good2, fun v2 H17 s17 la2 => ?_⟩
  have s17' := s16.trans s17
  have la17 := la13.same s17'
  obtain ⟨_, lay, _, dpl⟩ := sml_pts true pl2 good2.wf
  have okq : ∀ b, Okd (seqD b (pDs b pl2)) := fun b => by
    obtain ⟨a1, a2, a3, a4⟩ := sml_pts b pl2 good2.wf
    cases b
    · exact ⟨a1, by show widL _ + 3 ≤ 16000000; omega, by show PyData.depthAll _ + 1 ≤ 60; omega⟩
    · exact ⟨a1, by show widL _ + 2 ≤ 16000000; omega, by show PyData.depthAll _ + 1 ≤ 60; omega⟩
  have daL : ∀ (Hx : Hp) b v, LiAt Hx b v pl2 → Da K Hx v (seqD b (pDs b pl2)) := fun Hx b v ⟨q, ws, ev, h, r⟩ => by
    subst ev
    exact da_seq h (pts_da r)
  refine ⟨_, rfl, .inr (.inl ⟨.ref C1, v2, paText pl2, .list (pDs true pl2), .tuple (pDs false pl2), rfl, daL H17 true _ la17, daL H17 false _ la2, okq true, okq false, pa_tx good2.wf gn, tb13.ext s17', ?_, ?_, fun H18 x18 tb18 => ⟨_, rfl, iteF ?_⟩⟩)⟩
  · rintro x hx Hx Qx ex kx
    rcases hx with rfl | rfl
    · exact ⟨.ref C1, pl2, rfl, ⟨true, li_ext ex la17, good2⟩, kx⟩
    · exact ⟨_, pl2, rfl, ⟨false, li_ext ex la2, good2⟩, kx⟩
  · intro Hx Qx ex tx kx
    refine ⟨pl2, rfl, good2, fun D Hy U us' qs' e1 e2 hU h' gr fq => ?_⟩
    have gl := gr.len
    have nl := nods_len pl2
    exact kx D Hy us' qs' (ExtN.of (e1.trans e2)) (tx.ext (e1.trans e2)) (none_of e1 hU) h' (fnd_same e2 (grp_fnd (N := 5000) gr (by omega))) (by omega) (fun m => by
      obtain ⟨o, e⟩ := grp_there gr D m
      rw [hU] at e
      exact nomatch e) fq (.lst h' (pts_da (gr.pts.same e2)))
  -- a table
  have x18' := (ExtN.of s17').trans x18
  have c18 : H18 C2 = some (.lst bv2) := x18' _ _ c213 (fun ps z => nomatch z)
  have en18 := en_ext x18' en13
  have b18 := box_ext b13 x18'
  have e18 := e13.ext x18'
  have lb := en18.len
  refine ⟨_, rfl, C2, rfl, ⟨_, SqL.of c18⟩, fun E hE => ?_⟩
  refine lc_it walk_list (fun j H' => ∃ us2, Vls H18 E us2 H' ∧ EnAt H' false us2 (bl2.take j)) ⟨[], Vls.nil hE, .nil⟩ (fun j H' _ ⟨_, v, _⟩ => SqL.of (v.same _ _ c18)) ?_ ?_
  · rintro j x H19 H19' hj ⟨us2, vl, ef⟩ ⟨e, hx⟩
    subst e
    obtain ⟨t0, c0, n0, cs0, rfl, e1, e2, e3⟩ := en18.get hx
    have e2 := vl.same _ _ e2
    have e3 : H19' c0 = some (.lst (cs0.map oV)) := vl.same _ _ e3
    have lf := ef.len
    refine ⟨t0, _, rfl, SqT.of e2, rfl, _, _, rfl, _, _, rfl, rfl, rfl, yes_go ?_⟩
    refine ⟨_, rfl, _, rfl, c0, _, rfl, .inl ⟨SqL.of e3, fun c9 hc9 => ⟨by show 2 ≤ sizeLine; omega, fun t9 ht9 => ?_⟩⟩⟩
    have sa := (upd_new hc9 (o := .tup (cs0.map oV))).trans (upd_new ht9 (o := .tup [.int (n0 : Nat), .ref c9]))
    have t9c : t9 ≠ c9 := fun z => by rw [z, upd_same] at ht9; exact nomatch ht9
    obtain ⟨acc, a1, a2, a3⟩ := (vl.ext sa).add (y := V.ref t9) (by rw [lf, List.length_take]; omega)
    have tp := tups_put (ys := acc ++ [V.ref t9]) a1
    refine ⟨acc, a1, a2, _, a3, ?_⟩
    rw [take_succ e1]
    exact (en_tups (fun c xs e => tp _ _ (sa _ _ e)) ef).snoc (tp _ _ upd_same) (tp _ _ (by rw [upd_ne t9c.symm]; exact upd_same))
  rintro H19 ⟨us2, vl, ef⟩
  rw [lb, List.take_length] at ef
  refine ⟨E, us2, rfl, .inl ⟨SqL.of vl.at_, fun t20 ht20 => ?_⟩⟩
  have s20 := upd_new ht20 (o := .tup us2)
  have s20' := vl.same.trans s20
  refine ⟨_, rfl, _, rfl, _, rfl, C2, bv2, bl2, wd, rfl, s20' _ _ c18, en18.same s20', ok10, by omega, by omega, fun H21 s21 => ?_⟩
  have s21' := s20'.trans s21
  have c21 := s21' _ _ c18
  have en21 := en18.same s21'
  have ef21 := ef.same (s20.trans s21)
  have t21 : H21 t20 = some (.tup us2) := s21 _ _ upd_same
  have okb : ∀ b, Okd (seqD b (bl2.map (enB b))) := fun b => (sml_seq (m := 1000000) b (sml_mem fun e he => sml_en b (ok10 e he).1 (ok10 e he).2 (by omega)) (by rw [List.length_map]; omega)).okd (by decide) (by decide)
  refine .inr (.inr ⟨.ref C2, .ref t20, boText bl2, .list (bl2.map (enB true)), .tuple (bl2.map (enB false)), rfl, .lst c21 (en_da en21), .tup (SqT.of t21) (en_da ef21), okb true, okb false, bo_tx ok10 (by omega) (by omega), tb18.ext s21', ?_, ?_, fun H22 x22 tb22 => ⟨_, rfl, iteF ?_⟩⟩)
  · rintro x hx Hx Qx ex kx
    rcases hx with rfl | rfl
    · exact ⟨true, _, bl2, wd, rfl, ⟨C2, bv2, rfl, ex _ _ c21 (fun ps z => nomatch z), en_ext ex en21⟩, ok10, by omega, by omega, kx⟩
    · exact ⟨false, _, bl2, wd, rfl, ⟨t20, us2, rfl, ex _ _ t21 (fun ps z => nomatch z), en_ext ex ef21⟩, ok10, by omega, by omega, kx⟩
  · intro Hx Qx ex tx kx
    refine ⟨bl2, wd, rfl, ok10, by omega, by omega, fun D Hy us' qs' sy hD h' fd' nd' fq da' => ?_⟩
    have ld := da'.length
    rw [List.length_map] at ld
    exact kx D Hy us' qs' (ExtN.of sy) (tx.ext sy) hD h' fd' (by omega) nd' fq (.lst h' da')
  -- the greatest ones
  have x22' := (ExtN.of s21').trans x22
  have b22 := box_ext b18 x22'
  have e22 := e18.ext x22'
  refine ⟨_, rfl, rfl, _, rfl, ?_⟩
  refine iteB (fun _ => ?_) (fun _ => ?_)
  · refine ⟨_, rfl, p, 4, _, rfl, b22, by decide, by decide, by decide, fun d H23 d0 d1 t23 => ⟨rfl, _, rfl, ?_⟩⟩
    have e23 := e22.turn t23
    have tb23 := tab_turn b22 t23 tb22
    refine iteB (fun _ => ?_) (fun _ => ?_)
    · exact ⟨_, rfl, p, _, rfl, t23.1, by decide, tb23, fun H24 e24 tb24 => ⟨_, rfl, iteF ⟨_, _, _, _, _, _, _, rfl, keepA H24 (e23.trans e24), tb24⟩⟩⟩
    · exact iteF ⟨_, _, _, _, _, _, _, rfl, keepA H23 e23, tb23⟩
  · exact iteF ⟨_, _, _, _, _, _, _, rfl, keepA H22 e22, tb22⟩
end
end KW

namespace Gd
open PySem PySem.Spec PyProof.Rows L2 LamX
/-! ### the end of a law whose defs make lambdas: their tables of code objects are tracked -/
abbrev tab0 : Obj := { cls := .none, data := .fields #[] }
section
variable {P : Program} {w : World} {K : PySem.W.Frag} {mg mb : Str → Option Value} {CX : CXT} {k : Nat} {fa a : Addr} {fd : FuncData} {x : Str} {sp : Sp} {s : Shared} {vs : List Value} {ns : List Int} {cs : List (Addr × Addr)}
/-- the module of the builtins, as the head leaves it -/
abbrev BMain (mg : Str → Option Value) (h : Heap) : Prop := ∃ (bm : Addr) (ob : Obj), mg "__builtins__" = some (.ref bm) ∧ bm ≠ builtinsNs ∧ h.get? bm = some ob ∧ ob.cls = .type "module" ∧ ob.dict = some builtinsNs ∧ ob.data = .plain
theorem coreT (KX : K.In s.heap) (hns : s.heap.Ns mainGlobals mg) (hb : s.heap.Ns builtinsNs mb) (hbb : ∀ x : Str, x ≠ "__name__" → mb x = bootBuiltins x) (hlim : s.heap.NoLimit) (hsy : ∃ mm, s.heap.Ns sysModules mm) (hg : s.gens = #[])
    (hT : ∀ p ∈ cs, s.heap.get? p.2 = some tab0) (nT : ∀ p ∈ cs, K.lookup p.2 = none) (hC : ∀ p ∈ cs, PySem.W.CodeHd s.heap p.1 p.2) (hM : BMain mg s.heap)
    (ha : s.heap.get? a = some (scriptObj vs)) (hr : Room k callerA)
    (F : ∀ base : Heap, K.In base → base.Ns mainGlobals mg → SysIn base → (∀ p ∈ cs, TabB base mg p.1 p.2) → FnG P w K mg base CX k fa fd [x] sp) (hbind : ∀ (s : Shared) (u : Value), BindsTo s fd ⟨[u], []⟩ [(x, u)])
    (H : Hp) (hO : ∀ b, H b = none ∨ b ∈ cs.map (·.2) ∨ ∃ o xs, H b = some (.frz o (.lst xs))) (hok : HOk P w H s.heap) (hA : ∀ b, H b ≠ none → b = a ∨ b ∈ cs.map (·.2)) (hK : H a ≠ none → K.lookup a = none) (hH : ∀ p ∈ cs, H p.2 = some (.tbl #[]))
    (hsp : sp [.ref a] H (fun v _ => v = .bl true) fun _ _ _ => False) (hCX : ∀ e s', CX [] H s (fun _ _ _ => False) e s' → False) :
    codeAny (model P w) callerA (.call (.ref fa) ⟨[.ref a], []⟩) (Done s) s := by
  have tabAt : ∀ b, b ∈ cs.map (·.2) → s.heap.get? b = some tab0 := by
    intro b hb
    obtain ⟨p, hp, rfl⟩ := List.mem_map.mp hb
    exact hT p hp
  -- what is neither the script nor a table is not tracked
  have out : ∀ {b : Addr} {o : Obj}, s.heap.get? b = some o → (∀ z n, o.data ≠ .seq z n) → (∀ z, o.data ≠ .fields z) → H b = none := by
    intro b o e d1 d2
    refine Classical.byContradiction fun q => ?_
    rcases hA b q with rfl | hb
    · rw [ha] at e
      cases e
      exact d1 _ _ rfl
    · rw [tabAt b hb] at e
      cases e
      exact d2 _ rfl
  have nsA : ∀ {b : Addr} {m : Str → Option Value}, s.heap.Ns b m → (hidT s.heap H).Ns b m := by
    rintro b m ⟨o, es, ep, e, d, r⟩
    exact ⟨o, es, ep, hidT_get e (out e (fun z n q => by rw [d] at q; exact nomatch q) (fun z q => by rw [d] at q; exact nomatch q)), d, r⟩
  have inB : K.In (hidT s.heap H) := fun b o e => hidT_get (KX b o e) (Classical.byContradiction fun q => by
    rcases hA b q with rfl | hb
    · rw [hK q] at e
      exact nomatch e
    · obtain ⟨p, hp, rfl⟩ := List.mem_map.mp hb
      rw [nT p hp] at e
      exact nomatch e)
  have md : Mod K mg (hidT s.heap H) := ⟨inB, nsA hns, ⟨mb, nsA hb, hbb⟩, hlim.imp fun _ h => ⟨nsA h.1, h.2⟩⟩
  have tb : ∀ p ∈ cs, TabB (hidT s.heap H) mg p.1 p.2 := by
    intro p hp
    have e0 := hT p hp
    refine ⟨?_, ?_, fun z => ?_⟩
    · obtain ⟨o, us, fl, tf, gs, tg, nf, tx, tt, e1, r1, r2, r3, r⟩ := hC p hp
      refine ⟨o, us, fl, tf, gs, tg, nf, tx, tt, hidT_get e1 (Classical.byContradiction fun q => ?_), r1, r2, r3, r⟩
      rcases hA p.1 q with z | hb
      · rw [z, ha] at e1
        cases e1
        exact nomatch r2
      · rw [tabAt _ hb] at e1
        cases e1
        exact nomatch r1
    · obtain ⟨bm, ob, b1, b2, b3, b4, b5, b6⟩ := hM
      refine ⟨bm, ob, b1, b2, fun z => ?_, fun z => ?_, hidT_get b3 (out b3 (fun _ _ q => by rw [b6] at q; exact nomatch q) (fun _ q => by rw [b6] at q; exact nomatch q)), b4, b5, b6⟩
      · obtain ⟨o, es, ep, e, d, _⟩ := hns
        rw [z, e] at b3
        cases b3
        rw [d] at b6
        exact nomatch b6
      · rw [z, e0] at b3
        cases b3
        exact nomatch b6
    · obtain ⟨o, es, ep, e, d, _⟩ := hns
      rw [z, e0] at e
      cases e
      exact nomatch d
  have e0 : Env0 P w K mg (hidT s.heap H) callerA [] s H :=
    ⟨rfl, md, fun b o e => of_hidT e, Nat.le_of_eq (hidT_size _ _), trivial, fun _ hb => absurd hb List.not_mem_nil, hok, .of_eq hg⟩
  have R := (F _ inB (nsA hns) (let ⟨_, q⟩ := hsy; let ⟨o, _, _, e, _⟩ := nsA q; ⟨o, e⟩) tb).run callerA [] s H ⟨[.ref a], []⟩ [.ref a] [.ref a] _ _ rfl hr e0 (hbind s (.ref a)) (.cons rfl .nil) hsp
  refine codeAny_mono R fun r s' h => ?_
  match r, h with
  | .error e, h => exact (hCX e s' h).elim
  | .ok .next, h => exact False.elim h
  | .ok .brk, h => exact False.elim h
  | .ok .cont, h => exact False.elim h
  | .ok (.ret u), ⟨v, H', os, bare, un, hok', r', q⟩ =>
    have q' : v = .bl true := q
    subst q'
    cases (show u = Value.bool true from r')
    have plain : ∀ b o, b ∉ cs.map (·.2) → s.heap.get? b = some o → s'.heap.get? b = some o := by
      intro b o nb e
      cases hb : H b with
      | none => exact un.keep b o e hb List.not_mem_nil (by simp)
      | some u =>
        rcases hO b with z | z | ⟨ob, xs, z⟩
        · rw [hb] at z
          exact nomatch z
        · exact absurd z nb
        · have e1 := (hok b _ z).1
          have e2 := (hok' b _ (un.frzs b ob _ z)).1
          rw [e] at e1
          cases e1
          exact e2
    have grown : ∀ b, b ∈ cs.map (·.2) → ∃ more : Array Value, s'.heap.get? b = some { cls := .none, data := .fields more } := by
      intro b hb
      obtain ⟨p, hp, rfl⟩ := List.mem_map.mp hb
      obtain ⟨more, z⟩ := un.tbls p.2 #[] (hH p hp)
      exact ⟨_, hok' p.2 _ z⟩
    refine ⟨rfl, ⟨fun b o e => ?_, fun b o e => ?_⟩, os, bare⟩
    · by_cases nb : b ∈ cs.map (·.2)
      · obtain ⟨more, hm⟩ := grown b nb
        obtain ⟨p, hp, rfl⟩ := List.mem_map.mp nb
        rw [hT p hp] at e
        cases e
        exact .inr (.inl ⟨((hC p hp).tab (hT p hp)).isCodeTable, rfl, #[], more, rfl, by rw [Array.empty_append]; exact hm⟩)
      · exact .inl (plain b o nb e)
    · by_cases nb : b ∈ cs.map (·.2)
      · obtain ⟨more, hm⟩ := grown b nb
        exact ⟨_, hm⟩
      · exact ⟨o, plain b o nb e⟩
theorem callT (KX : K.In s.heap) (hns : s.heap.Ns mainGlobals mg) (hb : s.heap.Ns builtinsNs mb) (hbb : ∀ x : Str, x ≠ "__name__" → mb x = bootBuiltins x) (hlim : s.heap.NoLimit) (hsy : ∃ mm, s.heap.Ns sysModules mm) (hg : s.gens = #[])
    (hT : ∀ p ∈ cs, s.heap.get? p.2 = some tab0) (nT : ∀ p ∈ cs, K.lookup p.2 = none) (hC : ∀ p ∈ cs, PySem.W.CodeHd s.heap p.1 p.2) (hM : BMain mg s.heap)
    (ha : s.heap.get? a = some (scriptObj vs)) (hi : IntsAre vs ns) (hl : ns.length ≤ sizeLine) (hr : Room k callerA)
    (F : ∀ base : Heap, K.In base → base.Ns mainGlobals mg → SysIn base → (∀ p ∈ cs, TabB base mg p.1 p.2) → FnG P w K mg base CX k fa fd [x] sp) (hbind : ∀ (s : Shared) (u : Value), BindsTo s fd ⟨[u], []⟩ [(x, u)])
    (hsp : ∀ H : Hp, (∀ p ∈ cs, H p.2 = some (.tbl #[])) → SqL K H a (ns.map V.int) → sp [.ref a] H (fun v _ => v = .bl true) fun _ _ _ => False) (hCX : ∀ H e s', CX [] H s (fun _ _ _ => False) e s' → False) :
    codeAny (model P w) callerA (.call (.ref fa) ⟨[.ref a], []⟩) (Done s) s := by
  have rv := vals_ints hi
  have lenV := hi.length
  have aT : a ∉ cs.map (·.2) := by
    intro z
    obtain ⟨p, hp, e⟩ := List.mem_map.mp z
    have q := hT p hp
    rw [e, ha] at q
    exact nomatch (congrArg Obj.data (Option.some.inj q) : Data.seq vs.toArray _ = Data.fields #[])
  have mem : ∀ p ∈ cs, p.2 ∈ cs.map (·.2) := fun p hp => List.mem_map.mpr ⟨p, hp, rfl⟩
  let T : Hp := fun b => if b ∈ cs.map (·.2) then some (.tbl #[]) else none
  have Tt : ∀ b, b ∈ cs.map (·.2) → T b = some (.tbl #[]) := fun b hb => if_pos hb
  have Tn : ∀ b, b ∉ cs.map (·.2) → T b = none := fun b hb => if_neg hb
  have okT : ∀ b u, T b = some u → b ∈ cs.map (·.2) ∧ u = .tbl #[] := by
    intro b u z
    by_cases hb : b ∈ cs.map (·.2)
    · rw [Tt b hb] at z
      exact ⟨hb, (Option.some.inj z).symm⟩
    · rw [Tn b hb] at z
      exact nomatch z
  have tabOk : ∀ (H : Hp) b, b ∈ cs.map (·.2) → ObjOk P w H s.heap b (.tbl #[]) := by
    intro H b hb
    obtain ⟨p, hp, rfl⟩ := List.mem_map.mp hb
    exact hT p hp
  cases hk : K.lookup a with
  | some o =>
    have e := KX a o hk
    rw [ha] at e
    cases e
    refine coreT KX hns hb hbb hlim hsy hg hT nT hC hM ha hr F hbind T (fun b => ?_) (fun b u z => ?_) (fun b z => ?_) (fun z => absurd (Tn a aT) z) (fun p hp => Tt _ (mem p hp)) ?_ (hCX _)
    · exact (Classical.em (b ∈ cs.map (·.2))).elim (fun h => .inr (.inl h)) (fun h => .inl (Tn b h))
    · obtain ⟨h1, rfl⟩ := okT b u z
      exact tabOk _ b h1
    · exact (Classical.em (b ∈ cs.map (·.2))).elim .inr (fun h => absurd (Tn b h) z)
    · exact hsp _ (fun p hp => Tt _ (mem p hp)) (.inr ⟨_, vs.toArray, _, hk, rfl, rfl, rfl, by rw [List.size_toArray, lenV]; exact hl, by simpa using rv⟩)
  | none =>
    have ne : ∀ b, b ∈ cs.map (·.2) → b ≠ a := fun b hb z => aT (z ▸ hb)
    have up : ∀ b, b ∈ cs.map (·.2) → upd T a (.frz (scriptObj vs) (.lst (ns.map V.int))) b = some (.tbl #[]) := fun b hb => by rw [upd_ne (ne b hb)]; exact Tt b hb
    refine coreT KX hns hb hbb hlim hsy hg hT nT hC hM ha hr F hbind (upd T a (.frz (scriptObj vs) (.lst (ns.map V.int)))) (fun b => ?_) (fun b u z => ?_) (fun b z => ?_) (fun _ => hk) (fun p hp => up _ (mem p hp)) ?_ (hCX _)
    · by_cases hb : b = a
      · subst hb
        exact .inr (.inr ⟨_, _, upd_same⟩)
      · rw [upd_ne hb]
        exact (Classical.em (b ∈ cs.map (·.2))).elim (fun h => .inr (.inl h)) (fun h => .inl (Tn b h))
    · by_cases hb : b = a
      · subst hb
        rw [upd_same] at z
        cases z
        exact ⟨ha, by rw [List.length_map]; exact hl, vs, _, rv, ha⟩
      · rw [upd_ne hb] at z
        obtain ⟨h1, rfl⟩ := okT b u z
        exact tabOk _ b h1
    · by_cases hb : b = a
      · exact .inl hb
      · rw [upd_ne hb] at z
        exact (Classical.em (b ∈ cs.map (·.2))).elim .inr (fun h => absurd (Tn b h) z)
    · exact hsp _ (fun p hp => up _ (mem p hp)) (.inl (.inr ⟨scriptObj vs, upd_same⟩))
/-- the defs that make lambdas, by their names, with their code objects and tables -/
def TabsIn (K : PySem.W.Frag) (q : Program) (xs : List (Str × Addr × Addr)) : Prop := ∀ e ∈ xs, PySem.W.tabIn K e.1 = some e.2 ∧ K.lookup e.2.2 = none ∧ ((PyProof.Rows.recsOf q).find? fun d => d.name == e.1).isSome = true
theorem walkT {l : PySem.W.OpenLaw} {n k : Nat} {q : Program} {loose : List Str} {XP : (Str → Option Value) → Heap → Prop} {YP : World → Heap → Prop} {d : DefRec} {K : Params → PySem.W.Frag} {CX : World → CXT} {sp : World → List (Addr × Addr) → Sp} {x : Str}
    (hn : l.most = some n) (hn2 : n ≤ sizeLine) (hdf : d.params.defaults = []) (hr : Room k callerA) (himp : importsNone q = true) (hY : ∀ (w : World) (h : Heap), YP w h → (K w.params).In h)
    (F : ∀ (w : World) (mg : Str → Option Value) (fa : Addr) (h : Heap), (K w.params).In h → h.Ns mainGlobals mg → mg d.name = some (.ref fa) → ∃ xs : List (Str × Addr × Addr), TabsIn (K w.params) q xs ∧
      ∃ fd : FuncData, (∀ (s : Shared) (u : Value), BindsTo s fd ⟨[u], []⟩ [(x, u)]) ∧
        ∀ base : Heap, (K w.params).In base → base.Ns mainGlobals mg → SysIn base → (∀ e ∈ xs, TabB base mg e.2.1 e.2.2) → FnG l.prog w (K w.params) mg base (CX w) k fa fd [x] (sp w (xs.map (·.2))))
    (hsp : ∀ (w : World) (cs : List (Addr × Addr)) (H : Hp) (a : Addr) (ns : List Int), ns.length ≤ n → (∀ p ∈ cs, H p.2 = some (.tbl #[])) → SqL (K w.params) H a (ns.map V.int) → sp w cs [.ref a] H (fun v _ => v = .bl true) fun _ _ _ => False)
    (hCX : ∀ (w : World) (H : Hp) (s : Shared) (e : Value) (s' : Shared), CX w [] H s (fun _ _ _ => False) e s' → False) :
    PySem.W.WalkO q loose XP YP l.row.toRowW d [] (fun f vs => PySem.call f vs) := by
  refine Att.attach_call hn hdf fun w s₀ s₁ mg mb fa o pm cd doc a vs ns G Y ho hd hcd hmg hobj hints hlen hg => ?_
  have KX := hY w _ Y
  obtain ⟨xs, hx, fd, hb, hF⟩ := F w mg fa _ KX G.T.g hmg
  have tabs : ∀ p ∈ xs.map (·.2), PySem.W.CodeHd s₁.heap p.1 p.2 ∧ s₁.heap.get? p.2 = some tab0 := by
    intro p hp
    obtain ⟨e, he, rfl⟩ := List.mem_map.mp hp
    obtain ⟨h1, _, h3⟩ := hx e he
    obtain ⟨dr, hdr⟩ := Option.isSome_iff_exists.mp h3
    exact PySem.W.tab_of G.T KX hdr h1
  refine callT (cs := xs.map (·.2)) KX G.T.g G.T.b G.T.builtins G.T.nolimit (let ⟨mm, q, _⟩ := (G.T.seer himp).mods; ⟨mm, q⟩) hg (fun p hp => (tabs p hp).2) (fun p hp => ?_) (fun p hp => (tabs p hp).1) G.T.bmain hobj hints (Nat.le_trans hlen hn2) hr
    (fun base h1 h2 h3 h4 => hF base h1 h2 h3 fun e he => h4 e.2 (List.mem_map.mpr ⟨e, he, rfl⟩)) hb (fun H hH hS => hsp w _ H a ns hlen hH hS) fun H e s' => hCX w H s₁ e s'
  obtain ⟨e, he, rfl⟩ := List.mem_map.mp hp
  exact (hx e he).2.1
end
end Gd

namespace KW
open PySem PySem.Spec PyProof.Rows L2 Gd Zn KM KP
section
variable {K : PySem.W.Frag} {D : Addr} {doc pm cdv ct : Value} {an : Option Addr}
theorem pc_d (u a b : Value) : KwChain D [("minimum", a), ("maximum", b)] (bindArgs (PySem.W.fnOf "parse_count" "parse_count" (defArgs sparse_count) (defBody sparse_count) (defScope sparse_count) .none (.ref D) doc pm an cdv ct) ⟨[u], []⟩)
    [("text", u), ("minimum", a), ("maximum", b)] := ⟨_, _, _, _, _, _, rfl, rfl, _, _, _, _, _, _, rfl, rfl, rfl⟩
end
section
variable {P : Program} {w : World} {K : PySem.W.Frag} {mg : Str → Option Value} {base : Heap} {CX : CXT} {k : Nat} {f : Addr} {fd : FuncData} {ps : List Str} {sp sp1 sp2 : Sp}
theorem _root_.Gd.FnG.imp (F : FnG P w K mg base CX k f fd ps sp) (h : ∀ vs H Q E, sp1 vs H Q E → sp vs H Q E) : FnG P w K mg base CX k f fd ps sp1 :=
  ⟨fun vs H Q E z => F.len vs H Q E (h _ _ _ _ z), fun A outer s H args us vs Q E hc hr e0 hb r z => F.run A outer s H args us vs Q E hc hr e0 hb r (h _ _ _ _ z)⟩
theorem _root_.Gd.FnG.or3 (F : FnG P w K mg base CX k f fd ps sp) (G : FnG P w K mg base CX k f fd ps sp1) (J : FnG P w K mg base CX k f fd ps sp2) : FnG P w K mg base CX k f fd ps (fun vs H Q E => sp vs H Q E ∨ sp1 vs H Q E ∨ sp2 vs H Q E) :=
  ⟨fun vs H Q E z => z.elim (F.len vs H Q E) fun z => z.elim (G.len vs H Q E) (J.len vs H Q E), fun A outer s H args us vs Q E hc hr e0 hb r z =>
    z.elim (F.run A outer s H args us vs Q E hc hr e0 hb r) fun z => z.elim (G.run A outer s H args us vs Q E hc hr e0 hb r) (J.run A outer s H args us vs Q E hc hr e0 hb r)⟩
end
def spTop (K : PySem.W.Frag) (cs : List (Addr × Addr)) : Sp := fun vs H Q _ => ∃ (a : Addr) (ns : List Int), vs = [.ref a] ∧ SqL K H a (ns.map V.int) ∧ ns.length ≤ 63 ∧ (∀ p ∈ cs, H p.2 = some (.tbl #[])) ∧ ∀ H', Q (.bl true) H'
theorem exm_selfG {K : PySem.W.Frag} {S : Addr} (h1 : PySem.W.subIn K (.ref S) (.type "BaseException") = some true) (h2 : PySem.W.isClsIn K S = true) (h3 : PySem.W.typeIn K (.ref S) = some (.type "type")) (h4 : PySem.W.subIn K (.ref S) (.ref S) = some true) :
    PySem.W.exmOne K (.ref S) (.ref S) = some true := by
  have e1 : (PySem.W.subIn K (.ref S) (.type "BaseException") == some true) = true := by rw [h1] <;> rfl
  have e2 : ((PySem.W.clsIn K S).isSome && PySem.W.typeIn K (.ref S) == some (.type "type")) = true := by
    have h2' : (PySem.W.clsIn K S).isSome = true := h2
    rw [h2', h3] <;> rfl
  show (if (PySem.W.subIn K (.ref S) (.type "BaseException") == some true) = true then (if ((PySem.W.clsIn K S).isSome && PySem.W.typeIn K (.ref S) == some (.type "type")) = true then PySem.W.subIn K (.ref S) (.ref S) else none) else none) = some true
  rw [if_pos e1, if_pos e2]
  exact h4
theorem tab_in {K : PySem.W.Frag} {x : Str} {f c P : Addr} {oc oc2 : Value} {od od2 : Option Addr} {fd : FuncData} {vs : Array Value} {sl sl2 : Array (Option Value)} (a : PySem.W.nsIn K mainGlobals x = some (some (.ref f))) (l : K.lookup f = some ⟨oc, od, .func fd, sl⟩) (e : fd.code = .ref c)
    (l2 : K.lookup c = some ⟨oc2, od2, .fields vs, sl2⟩) (v : (vs[11]? : Option Value) = some (.ref P)) : PySem.W.tabIn K x = some (c, P) := by
  unfold PySem.W.tabIn
  simp only [a, l, e, l2, v]
open PySem.W in
theorem all_mk {P : Program} {w : World} {K : PySem.W.Frag} {h : Heap} {mg : Str → Option Value} {fa : Addr} {q : Program} (X : K.In h) (G : h.Ns mainGlobals mg) (hfa : mg "law" = some (.ref fa))
    {f0 : Addr} {od0 an0 : Option Addr} {sl0 : Array (Option Value)} {oc0 kV0 dc0 pm0 cd0 ct0 : Value}
    {f1 : Addr} {od1 an1 : Option Addr} {sl1 : Array (Option Value)} {oc1 kV1 dc1 pm1 cd1 ct1 : Value}
    {f2 : Addr} {od2 an2 : Option Addr} {sl2 : Array (Option Value)} {oc2 kV2 dc2 pm2 cd2 ct2 : Value}
    {f3 : Addr} {od3 an3 : Option Addr} {sl3 : Array (Option Value)} {oc3 kV3 dc3 pm3 cd3 ct3 : Value}
    {f4 : Addr} {od4 an4 : Option Addr} {sl4 : Array (Option Value)} {oc4 dc4 pm4 cd4 ct4 : Value}
    {f5 : Addr} {od5 an5 : Option Addr} {sl5 : Array (Option Value)} {oc5 kV5 dc5 pm5 cd5 ct5 : Value}
    {f6 : Addr} {od6 an6 : Option Addr} {sl6 : Array (Option Value)} {oc6 kV6 dc6 pm6 cd6 ct6 : Value}
    {f7 : Addr} {od7 an7 : Option Addr} {sl7 : Array (Option Value)} {oc7 kV7 dc7 pm7 cd7 ct7 : Value}
    {f8 : Addr} {od8 an8 : Option Addr} {sl8 : Array (Option Value)} {oc8 kV8 dc8 pm8 cd8 ct8 : Value}
    {f9 : Addr} {od9 an9 : Option Addr} {sl9 : Array (Option Value)} {oc9 kV9 dc9 pm9 cd9 ct9 : Value}
    {f10 : Addr} {od10 an10 : Option Addr} {sl10 : Array (Option Value)} {oc10 kV10 dc10 pm10 cd10 ct10 : Value}
    {f11 : Addr} {od11 an11 : Option Addr} {sl11 : Array (Option Value)} {oc11 kV11 dc11 pm11 cd11 ct11 : Value}
    {f12 : Addr} {od12 an12 : Option Addr} {sl12 : Array (Option Value)} {oc12 kV12 dc12 pm12 cd12 ct12 : Value}
    {f13 : Addr} {od13 an13 : Option Addr} {sl13 : Array (Option Value)} {oc13 kV13 dc13 pm13 cd13 ct13 : Value}
    {f14 : Addr} {od14 an14 : Option Addr} {sl14 : Array (Option Value)} {oc14 kV14 dc14 pm14 cd14 ct14 : Value}
    {f15 : Addr} {od15 an15 : Option Addr} {sl15 : Array (Option Value)} {oc15 kV15 dc15 pm15 cd15 ct15 : Value}
    {f16 : Addr} {od16 an16 : Option Addr} {sl16 : Array (Option Value)} {oc16 kV16 dc16 pm16 cd16 ct16 : Value}
    {f17 : Addr} {od17 an17 : Option Addr} {sl17 : Array (Option Value)} {oc17 kV17 dc17 pm17 cd17 ct17 : Value}
    {f18 : Addr} {od18 an18 : Option Addr} {sl18 : Array (Option Value)} {oc18 kV18 dc18 pm18 cd18 ct18 : Value}
    {f19 : Addr} {od19 an19 : Option Addr} {sl19 : Array (Option Value)} {oc19 kV19 dc19 pm19 cd19 ct19 : Value}
    {f20 : Addr} {od20 an20 : Option Addr} {sl20 : Array (Option Value)} {oc20 kV20 dc20 pm20 cd20 ct20 : Value}
    {f21 : Addr} {od21 an21 : Option Addr} {sl21 : Array (Option Value)} {oc21 kV21 dc21 pm21 cd21 ct21 : Value}
    {f22 : Addr} {od22 an22 : Option Addr} {sl22 : Array (Option Value)} {oc22 kV22 dc22 pm22 cd22 ct22 : Value}
    {f23 : Addr} {od23 an23 : Option Addr} {sl23 : Array (Option Value)} {oc23 kV23 dc23 pm23 cd23 ct23 : Value}
    {f24 : Addr} {od24 an24 : Option Addr} {sl24 : Array (Option Value)} {oc24 kV24 dc24 pm24 cd24 ct24 : Value}
    {f25 : Addr} {od25 an25 : Option Addr} {sl25 : Array (Option Value)} {oc25 kV25 dc25 pm25 cd25 ct25 : Value}
    {f26 : Addr} {od26 an26 : Option Addr} {sl26 : Array (Option Value)} {oc26 kV26 dc26 pm26 cd26 ct26 : Value}
    {f27 : Addr} {od27 an27 : Option Addr} {sl27 : Array (Option Value)} {oc27 kV27 dc27 pm27 cd27 ct27 : Value}
    {f28 : Addr} {od28 an28 : Option Addr} {sl28 : Array (Option Value)} {oc28 kV28 dc28 pm28 cd28 ct28 : Value}
    {f29 : Addr} {od29 an29 : Option Addr} {sl29 : Array (Option Value)} {oc29 kV29 dc29 pm29 cd29 ct29 : Value}
    {f30 : Addr} {od30 an30 : Option Addr} {sl30 : Array (Option Value)} {oc30 kV30 dc30 pm30 cd30 ct30 : Value}
    {f31 : Addr} {od31 an31 : Option Addr} {sl31 : Array (Option Value)} {oc31 kV31 dc31 pm31 cd31 ct31 : Value}
    {f32 : Addr} {od32 an32 : Option Addr} {sl32 : Array (Option Value)} {oc32 kV32 dc32 pm32 cd32 ct32 : Value}
    {f33 : Addr} {od33 an33 : Option Addr} {sl33 : Array (Option Value)} {oc33 kV33 dc33 pm33 cd33 ct33 : Value}
    {f34 : Addr} {od34 an34 : Option Addr} {sl34 : Array (Option Value)} {oc34 kV34 dc34 pm34 cd34 ct34 : Value}
    {f35 : Addr} {od35 an35 : Option Addr} {sl35 : Array (Option Value)} {oc35 kV35 dc35 pm35 cd35 ct35 : Value}
    {f36 : Addr} {od36 an36 : Option Addr} {sl36 : Array (Option Value)} {oc36 kV36 dc36 pm36 cd36 ct36 : Value}
    {f37 : Addr} {od37 an37 : Option Addr} {sl37 : Array (Option Value)} {oc37 kV37 dc37 pm37 cd37 ct37 : Value}
    {f38 : Addr} {od38 an38 : Option Addr} {sl38 : Array (Option Value)} {oc38 kV38 dc38 pm38 cd38 ct38 : Value}
    {f39 : Addr} {od39 an39 : Option Addr} {sl39 : Array (Option Value)} {oc39 kV39 dc39 pm39 cd39 ct39 : Value}
    {f40 : Addr} {od40 an40 : Option Addr} {sl40 : Array (Option Value)} {oc40 kV40 dc40 pm40 cd40 ct40 : Value}
    {f41 : Addr} {od41 an41 : Option Addr} {sl41 : Array (Option Value)} {oc41 kV41 dc41 pm41 cd41 ct41 : Value}
    {f42 : Addr} {od42 an42 : Option Addr} {sl42 : Array (Option Value)} {oc42 kV42 dc42 pm42 cd42 ct42 : Value}
    {f43 : Addr} {od43 an43 : Option Addr} {sl43 : Array (Option Value)} {oc43 kV43 dc43 pm43 cd43 ct43 : Value}
    {f44 : Addr} {od44 an44 : Option Addr} {sl44 : Array (Option Value)} {oc44 kV44 dc44 pm44 cd44 ct44 : Value}
    {f45 : Addr} {od45 an45 : Option Addr} {sl45 : Array (Option Value)} {oc45 kV45 dc45 pm45 cd45 ct45 : Value}
    {f46 : Addr} {od46 an46 : Option Addr} {sl46 : Array (Option Value)} {oc46 kV46 dc46 pm46 cd46 ct46 : Value}
    {CI gI NI : Addr} {nmI qI : Str} {bsI : List Value} {snI : List Str} {subI : List Value} {abI : Bool} {colI : Option Bool} {ddI : Option Addr} {m0I m1I m2I m3I m5I : Option Value} {bmI : List Value} {ocI dcI pmI cdI ctI : Value} {odI anI : Option Addr} {slI : Array (Option Value)} {p1I p2I q1I q2I q3I q4I : Pos}
    {cTS pTS : Addr} {ocTS : Value} {odTS : Option Addr} {vsTS : Array Value} {slTS : Array (Option Value)}
    {DK : Addr} {tm gAt gBt gCt gDt gEt gFt gGt : Tok}
    (a0 : PySem.W.nsIn K mainGlobals "is_integer" = some (some (.ref f0)))
    (l0 : K.lookup f0 = some ⟨oc0, od0, .func (PySem.W.fnOf "is_integer" "is_integer" (defArgs sis_integer) (defBody sis_integer) (defScope sis_integer) .none kV0 dc0 pm0 an0 cd0 ct0), sl0⟩)
    (c0 : PySem.W.codeIn K cd0 "is_integer" = true)
    (k0 : PySem.W.keepIn K (.ref f0) = true)
    (a1 : PySem.W.nsIn K mainGlobals "is_letter" = some (some (.ref f1)))
    (l1 : K.lookup f1 = some ⟨oc1, od1, .func (PySem.W.fnOf "is_letter" "is_letter" (defArgs sis_letter) (defBody sis_letter) (defScope sis_letter) .none kV1 dc1 pm1 an1 cd1 ct1), sl1⟩)
    (c1 : PySem.W.codeIn K cd1 "is_letter" = true)
    (k1 : PySem.W.keepIn K (.ref f1) = true)
    (a2 : PySem.W.nsIn K mainGlobals "is_list" = some (some (.ref f2)))
    (l2 : K.lookup f2 = some ⟨oc2, od2, .func (PySem.W.fnOf "is_list" "is_list" (defArgs sis_list) (defBody sis_list) (defScope sis_list) .none kV2 dc2 pm2 an2 cd2 ct2), sl2⟩)
    (c2 : PySem.W.codeIn K cd2 "is_list" = true)
    (k2 : PySem.W.keepIn K (.ref f2) = true)
    (a3 : PySem.W.nsIn K mainGlobals "is_index" = some (some (.ref f3)))
    (l3 : K.lookup f3 = some ⟨oc3, od3, .func (PySem.W.fnOf "is_index" "is_index" (defArgs sis_index) (defBody sis_index) (defScope sis_index) .none kV3 dc3 pm3 an3 cd3 ct3), sl3⟩)
    (c3 : PySem.W.codeIn K cd3 "is_index" = true)
    (k3 : PySem.W.keepIn K (.ref f3) = true)
    (a4 : PySem.W.nsIn K mainGlobals "parse_count" = some (some (.ref f4)))
    (l4 : K.lookup f4 = some ⟨oc4, od4, .func (PySem.W.fnOf "parse_count" "parse_count" (defArgs sparse_count) (defBody sparse_count) (defScope sparse_count) .none (.ref DK) dc4 pm4 an4 cd4 ct4), sl4⟩)
    (c4 : PySem.W.codeIn K cd4 "parse_count" = true)
    (k4 : PySem.W.keepIn K (.ref f4) = true)
    (a5 : PySem.W.nsIn K mainGlobals "is_number" = some (some (.ref f5)))
    (l5 : K.lookup f5 = some ⟨oc5, od5, .func (PySem.W.fnOf "is_number" "is_number" (defArgs sis_number) (defBody sis_number) (defScope sis_number) .none kV5 dc5 pm5 an5 cd5 ct5), sl5⟩)
    (c5 : PySem.W.codeIn K cd5 "is_number" = true)
    (k5 : PySem.W.keepIn K (.ref f5) = true)
    (a6 : PySem.W.nsIn K mainGlobals "split_words" = some (some (.ref f6)))
    (l6 : K.lookup f6 = some ⟨oc6, od6, .func (PySem.W.fnOf "split_words" "split_words" (defArgs ssplit_words) (defBody ssplit_words) (defScope ssplit_words) .none kV6 dc6 pm6 an6 cd6 ct6), sl6⟩)
    (c6 : PySem.W.codeIn K cd6 "split_words" = true)
    (k6 : PySem.W.keepIn K (.ref f6) = true)
    (a7 : PySem.W.nsIn K mainGlobals "is_symbol" = some (some (.ref f7)))
    (l7 : K.lookup f7 = some ⟨oc7, od7, .func (PySem.W.fnOf "is_symbol" "is_symbol" (defArgs sis_symbol) (defBody sis_symbol) (defScope sis_symbol) .none kV7 dc7 pm7 an7 cd7 ct7), sl7⟩)
    (c7 : PySem.W.codeIn K cd7 "is_symbol" = true)
    (k7 : PySem.W.keepIn K (.ref f7) = true)
    (a8 : PySem.W.nsIn K mainGlobals "is_pair" = some (some (.ref f8)))
    (l8 : K.lookup f8 = some ⟨oc8, od8, .func (PySem.W.fnOf "is_pair" "is_pair" (defArgs sis_pair) (defBody sis_pair) (defScope sis_pair) .none kV8 dc8 pm8 an8 cd8 ct8), sl8⟩)
    (c8 : PySem.W.codeIn K cd8 "is_pair" = true)
    (k8 : PySem.W.keepIn K (.ref f8) = true)
    (a9 : PySem.W.nsIn K mainGlobals "is_pattern" = some (some (.ref f9)))
    (l9 : K.lookup f9 = some ⟨oc9, od9, .func (PySem.W.fnOf "is_pattern" "is_pattern" (defArgs sis_pattern) (defBody sis_pattern) (defScope sis_pattern) .none kV9 dc9 pm9 an9 cd9 ct9), sl9⟩)
    (c9 : PySem.W.codeIn K cd9 "is_pattern" = true)
    (k9 : PySem.W.keepIn K (.ref f9) = true)
    (a10 : PySem.W.nsIn K mainGlobals "is_pattern_within" = some (some (.ref f10)))
    (l10 : K.lookup f10 = some ⟨oc10, od10, .func (PySem.W.fnOf "is_pattern_within" "is_pattern_within" (defArgs sis_pattern_within) (defBody sis_pattern_within) (defScope sis_pattern_within) .none kV10 dc10 pm10 an10 cd10 ct10), sl10⟩)
    (c10 : PySem.W.codeIn K cd10 "is_pattern_within" = true)
    (k10 : PySem.W.keepIn K (.ref f10) = true)
    (a11 : PySem.W.nsIn K mainGlobals "is_repetition" = some (some (.ref f11)))
    (l11 : K.lookup f11 = some ⟨oc11, od11, .func (PySem.W.fnOf "is_repetition" "is_repetition" (defArgs sis_repetition) (defBody sis_repetition) (defScope sis_repetition) .none kV11 dc11 pm11 an11 cd11 ct11), sl11⟩)
    (c11 : PySem.W.codeIn K cd11 "is_repetition" = true)
    (k11 : PySem.W.keepIn K (.ref f11) = true)
    (a12 : PySem.W.nsIn K mainGlobals "require_pattern" = some (some (.ref f12)))
    (l12 : K.lookup f12 = some ⟨oc12, od12, .func (PySem.W.fnOf "require_pattern" "require_pattern" (defArgs srequire_pattern) (defBody srequire_pattern) (defScope srequire_pattern) .none kV12 dc12 pm12 an12 cd12 ct12), sl12⟩)
    (c12 : PySem.W.codeIn K cd12 "require_pattern" = true)
    (k12 : PySem.W.keepIn K (.ref f12) = true)
    (a13 : PySem.W.nsIn K mainGlobals "symbol_word" = some (some (.ref f13)))
    (l13 : K.lookup f13 = some ⟨oc13, od13, .func (PySem.W.fnOf "symbol_word" "symbol_word" (defArgs ssymbol_word) (defBody ssymbol_word) (defScope ssymbol_word) .none kV13 dc13 pm13 an13 cd13 ct13), sl13⟩)
    (c13 : PySem.W.codeIn K cd13 "symbol_word" = true)
    (k13 : PySem.W.keepIn K (.ref f13) = true)
    (a14 : PySem.W.nsIn K mainGlobals "number_word" = some (some (.ref f14)))
    (l14 : K.lookup f14 = some ⟨oc14, od14, .func (PySem.W.fnOf "number_word" "number_word" (defArgs snumber_word) (defBody snumber_word) (defScope snumber_word) .none kV14 dc14 pm14 an14 cd14 ct14), sl14⟩)
    (c14 : PySem.W.codeIn K cd14 "number_word" = true)
    (k14 : PySem.W.keepIn K (.ref f14) = true)
    (a15 : PySem.W.nsIn K mainGlobals "symbol_of" = some (some (.ref f15)))
    (l15 : K.lookup f15 = some ⟨oc15, od15, .func (PySem.W.fnOf "symbol_of" "symbol_of" (defArgs ssymbol_of) (defBody ssymbol_of) (defScope ssymbol_of) .none kV15 dc15 pm15 an15 cd15 ct15), sl15⟩)
    (c15 : PySem.W.codeIn K cd15 "symbol_of" = true)
    (k15 : PySem.W.keepIn K (.ref f15) = true)
    (a16 : PySem.W.nsIn K mainGlobals "is_number_word" = some (some (.ref f16)))
    (l16 : K.lookup f16 = some ⟨oc16, od16, .func (PySem.W.fnOf "is_number_word" "is_number_word" (defArgs sis_number_word) (defBody sis_number_word) (defScope sis_number_word) .none kV16 dc16 pm16 an16 cd16 ct16), sl16⟩)
    (c16 : PySem.W.codeIn K cd16 "is_number_word" = true)
    (k16 : PySem.W.keepIn K (.ref f16) = true)
    (a17 : PySem.W.nsIn K mainGlobals "lines_of" = some (some (.ref f17)))
    (l17 : K.lookup f17 = some ⟨oc17, od17, .func (PySem.W.fnOf "lines_of" "lines_of" (defArgs slines_of) (defBody slines_of) (defScope slines_of) .none kV17 dc17 pm17 an17 cd17 ct17), sl17⟩)
    (c17 : PySem.W.codeIn K cd17 "lines_of" = true)
    (k17 : PySem.W.keepIn K (.ref f17) = true)
    (a18 : PySem.W.nsIn K mainGlobals "row_words" = some (some (.ref f18)))
    (l18 : K.lookup f18 = some ⟨oc18, od18, .func (PySem.W.fnOf "row_words" "row_words" (defArgs srow_words) (defBody srow_words) (defScope srow_words) .none kV18 dc18 pm18 an18 cd18 ct18), sl18⟩)
    (c18 : PySem.W.codeIn K cd18 "row_words" = true)
    (k18 : PySem.W.keepIn K (.ref f18) = true)
    (a19 : PySem.W.nsIn K mainGlobals "header_count" = some (some (.ref f19)))
    (l19 : K.lookup f19 = some ⟨oc19, od19, .func (PySem.W.fnOf "header_count" "header_count" (defArgs sheader_count) (defBody sheader_count) (defScope sheader_count) .none kV19 dc19 pm19 an19 cd19 ct19), sl19⟩)
    (c19 : PySem.W.codeIn K cd19 "header_count" = true)
    (k19 : PySem.W.keepIn K (.ref f19) = true)
    (a20 : PySem.W.nsIn K mainGlobals "read_rows" = some (some (.ref f20)))
    (l20 : K.lookup f20 = some ⟨oc20, od20, .func (PySem.W.fnOf "read_rows" "read_rows" (defArgs sread_rows) (defBody sread_rows) (defScope sread_rows) .none kV20 dc20 pm20 an20 cd20 ct20), sl20⟩)
    (c20 : PySem.W.codeIn K cd20 "read_rows" = true)
    (k20 : PySem.W.keepIn K (.ref f20) = true)
    (a21 : PySem.W.nsIn K mainGlobals "write_script" = some (some (.ref f21)))
    (l21 : K.lookup f21 = some ⟨oc21, od21, .func (PySem.W.fnOf "write_script" "write_script" (defArgs swrite_script) (defBody swrite_script) (defScope swrite_script) .none kV21 dc21 pm21 an21 cd21 ct21), sl21⟩)
    (c21 : PySem.W.codeIn K cd21 "write_script" = true)
    (k21 : PySem.W.keepIn K (.ref f21) = true)
    (a22 : PySem.W.nsIn K mainGlobals "read_script" = some (some (.ref f22)))
    (l22 : K.lookup f22 = some ⟨oc22, od22, .func (PySem.W.fnOf "read_script" "read_script" (defArgs sread_script) (defBody sread_script) (defScope sread_script) .none kV22 dc22 pm22 an22 cd22 ct22), sl22⟩)
    (c22 : PySem.W.codeIn K cd22 "read_script" = true)
    (k22 : PySem.W.keepIn K (.ref f22) = true)
    (a23 : PySem.W.nsIn K mainGlobals "pair_row" = some (some (.ref f23)))
    (l23 : K.lookup f23 = some ⟨oc23, od23, .func (PySem.W.fnOf "pair_row" "pair_row" (defArgs spair_row) (defBody spair_row) (defScope spair_row) .none kV23 dc23 pm23 an23 cd23 ct23), sl23⟩)
    (c23 : PySem.W.codeIn K cd23 "pair_row" = true)
    (k23 : PySem.W.keepIn K (.ref f23) = true)
    (a24 : PySem.W.nsIn K mainGlobals "write_pattern" = some (some (.ref f24)))
    (l24 : K.lookup f24 = some ⟨oc24, od24, .func (PySem.W.fnOf "write_pattern" "write_pattern" (defArgs swrite_pattern) (defBody swrite_pattern) (defScope swrite_pattern) .none kV24 dc24 pm24 an24 cd24 ct24), sl24⟩)
    (c24 : PySem.W.codeIn K cd24 "write_pattern" = true)
    (k24 : PySem.W.keepIn K (.ref f24) = true)
    (a25 : PySem.W.nsIn K mainGlobals "pattern_lines" = some (some (.ref f25)))
    (l25 : K.lookup f25 = some ⟨oc25, od25, .func (PySem.W.fnOf "pattern_lines" "pattern_lines" (defArgs spattern_lines) (defBody spattern_lines) (defScope spattern_lines) .none kV25 dc25 pm25 an25 cd25 ct25), sl25⟩)
    (c25 : PySem.W.codeIn K cd25 "pattern_lines" = true)
    (k25 : PySem.W.keepIn K (.ref f25) = true)
    (a26 : PySem.W.nsIn K mainGlobals "read_pattern" = some (some (.ref f26)))
    (l26 : K.lookup f26 = some ⟨oc26, od26, .func (PySem.W.fnOf "read_pattern" "read_pattern" (defArgs sread_pattern) (defBody sread_pattern) (defScope sread_pattern) .none kV26 dc26 pm26 an26 cd26 ct26), sl26⟩)
    (c26 : PySem.W.codeIn K cd26 "read_pattern" = true)
    (k26 : PySem.W.keepIn K (.ref f26) = true)
    (a27 : PySem.W.nsIn K mainGlobals "read_item" = some (some (.ref f27)))
    (l27 : K.lookup f27 = some ⟨oc27, od27, .func (PySem.W.fnOf "read_item" "read_item" (defArgs sread_item) (defBody sread_item) (defScope sread_item) .none kV27 dc27 pm27 an27 cd27 ct27), sl27⟩)
    (c27 : PySem.W.codeIn K cd27 "read_item" = true)
    (k27 : PySem.W.keepIn K (.ref f27) = true)
    (a28 : PySem.W.nsIn K mainGlobals "write_bounds" = some (some (.ref f28)))
    (l28 : K.lookup f28 = some ⟨oc28, od28, .func (PySem.W.fnOf "write_bounds" "write_bounds" (defArgs swrite_bounds) (defBody swrite_bounds) (defScope swrite_bounds) .none kV28 dc28 pm28 an28 cd28 ct28), sl28⟩)
    (c28 : PySem.W.codeIn K cd28 "write_bounds" = true)
    (k28 : PySem.W.keepIn K (.ref f28) = true)
    (a29 : PySem.W.nsIn K mainGlobals "is_bounds" = some (some (.ref f29)))
    (l29 : K.lookup f29 = some ⟨oc29, od29, .func (PySem.W.fnOf "is_bounds" "is_bounds" (defArgs sis_bounds) (defBody sis_bounds) (defScope sis_bounds) .none kV29 dc29 pm29 an29 cd29 ct29), sl29⟩)
    (c29 : PySem.W.codeIn K cd29 "is_bounds" = true)
    (k29 : PySem.W.keepIn K (.ref f29) = true)
    (a30 : PySem.W.nsIn K mainGlobals "is_bounds_entry" = some (some (.ref f30)))
    (l30 : K.lookup f30 = some ⟨oc30, od30, .func (PySem.W.fnOf "is_bounds_entry" "is_bounds_entry" (defArgs sis_bounds_entry) (defBody sis_bounds_entry) (defScope sis_bounds_entry) .none kV30 dc30 pm30 an30 cd30 ct30), sl30⟩)
    (c30 : PySem.W.codeIn K cd30 "is_bounds_entry" = true)
    (k30 : PySem.W.keepIn K (.ref f30) = true)
    (a31 : PySem.W.nsIn K mainGlobals "read_bounds" = some (some (.ref f31)))
    (l31 : K.lookup f31 = some ⟨oc31, od31, .func (PySem.W.fnOf "read_bounds" "read_bounds" (defArgs sread_bounds) (defBody sread_bounds) (defScope sread_bounds) .none kV31 dc31 pm31 an31 cd31 ct31), sl31⟩)
    (c31 : PySem.W.codeIn K cd31 "read_bounds" = true)
    (k31 : PySem.W.keepIn K (.ref f31) = true)
    (a32 : PySem.W.nsIn K mainGlobals "bounds_row" = some (some (.ref f32)))
    (l32 : K.lookup f32 = some ⟨oc32, od32, .func (PySem.W.fnOf "bounds_row" "bounds_row" (defArgs sbounds_row) (defBody sbounds_row) (defScope sbounds_row) .none kV32 dc32 pm32 an32 cd32 ct32), sl32⟩)
    (c32 : PySem.W.codeIn K cd32 "bounds_row" = true)
    (k32 : PySem.W.keepIn K (.ref f32) = true)
    (a33 : PySem.W.nsIn K mainGlobals "_law_cell" = some (some (.ref f33)))
    (l33 : K.lookup f33 = some ⟨oc33, od33, .func (PySem.W.fnOf "_law_cell" "_law_cell" (defArgs s_law_cell) (defBody s_law_cell) (defScope s_law_cell) .none kV33 dc33 pm33 an33 cd33 ct33), sl33⟩)
    (c33 : PySem.W.codeIn K cd33 "_law_cell" = true)
    (k33 : PySem.W.keepIn K (.ref f33) = true)
    (a34 : PySem.W.nsIn K mainGlobals "_law_box" = some (some (.ref f34)))
    (l34 : K.lookup f34 = some ⟨oc34, od34, .func (PySem.W.fnOf "_law_box" "_law_box" (defArgs s_law_box) (defBody s_law_box) (defScope s_law_box) .none kV34 dc34 pm34 an34 cd34 ct34), sl34⟩)
    (c34 : PySem.W.codeIn K cd34 "_law_box" = true)
    (k34 : PySem.W.keepIn K (.ref f34) = true)
    (a35 : PySem.W.nsIn K mainGlobals "_law_take" = some (some (.ref f35)))
    (l35 : K.lookup f35 = some ⟨oc35, od35, .func (PySem.W.fnOf "_law_take" "_law_take" (defArgs s_law_take) (defBody s_law_take) (defScope s_law_take) .none kV35 dc35 pm35 an35 cd35 ct35), sl35⟩)
    (c35 : PySem.W.codeIn K cd35 "_law_take" = true)
    (k35 : PySem.W.keepIn K (.ref f35) = true)
    (a36 : PySem.W.nsIn K mainGlobals "_law_spot" = some (some (.ref f36)))
    (l36 : K.lookup f36 = some ⟨oc36, od36, .func (PySem.W.fnOf "_law_spot" "_law_spot" (defArgs s_law_spot) (defBody s_law_spot) (defScope s_law_spot) .none kV36 dc36 pm36 an36 cd36 ct36), sl36⟩)
    (c36 : PySem.W.codeIn K cd36 "_law_spot" = true)
    (k36 : PySem.W.keepIn K (.ref f36) = true)
    (a37 : PySem.W.nsIn K mainGlobals "_law_script" = some (some (.ref f37)))
    (l37 : K.lookup f37 = some ⟨oc37, od37, .func (PySem.W.fnOf "_law_script" "_law_script" (defArgs s_law_script) (defBody s_law_script) (defScope s_law_script) .none kV37 dc37 pm37 an37 cd37 ct37), sl37⟩)
    (c37 : PySem.W.codeIn K cd37 "_law_script" = true)
    (k37 : PySem.W.keepIn K (.ref f37) = true)
    (a38 : PySem.W.nsIn K mainGlobals "_law_pattern" = some (some (.ref f38)))
    (l38 : K.lookup f38 = some ⟨oc38, od38, .func (PySem.W.fnOf "_law_pattern" "_law_pattern" (defArgs s_law_pattern) (defBody s_law_pattern) (defScope s_law_pattern) .none kV38 dc38 pm38 an38 cd38 ct38), sl38⟩)
    (c38 : PySem.W.codeIn K cd38 "_law_pattern" = true)
    (k38 : PySem.W.keepIn K (.ref f38) = true)
    (a39 : PySem.W.nsIn K mainGlobals "_law_bounds" = some (some (.ref f39)))
    (l39 : K.lookup f39 = some ⟨oc39, od39, .func (PySem.W.fnOf "_law_bounds" "_law_bounds" (defArgs s_law_bounds) (defBody s_law_bounds) (defScope s_law_bounds) .none kV39 dc39 pm39 an39 cd39 ct39), sl39⟩)
    (c39 : PySem.W.codeIn K cd39 "_law_bounds" = true)
    (k39 : PySem.W.keepIn K (.ref f39) = true)
    (a40 : PySem.W.nsIn K mainGlobals "_law_pattern_lines" = some (some (.ref f40)))
    (l40 : K.lookup f40 = some ⟨oc40, od40, .func (PySem.W.fnOf "_law_pattern_lines" "_law_pattern_lines" (defArgs s_law_pattern_lines) (defBody s_law_pattern_lines) (defScope s_law_pattern_lines) .none kV40 dc40 pm40 an40 cd40 ct40), sl40⟩)
    (c40 : PySem.W.codeIn K cd40 "_law_pattern_lines" = true)
    (k40 : PySem.W.keepIn K (.ref f40) = true)
    (a41 : PySem.W.nsIn K mainGlobals "_law_tupled" = some (some (.ref f41)))
    (l41 : K.lookup f41 = some ⟨oc41, od41, .func (PySem.W.fnOf "_law_tupled" "_law_tupled" (defArgs s_law_tupled) (defBody s_law_tupled) (defScope s_law_tupled) .none kV41 dc41 pm41 an41 cd41 ct41), sl41⟩)
    (c41 : PySem.W.codeIn K cd41 "_law_tupled" = true)
    (k41 : PySem.W.keepIn K (.ref f41) = true)
    (a42 : PySem.W.nsIn K mainGlobals "_law_both" = some (some (.ref f42)))
    (l42 : K.lookup f42 = some ⟨oc42, od42, .func (PySem.W.fnOf "_law_both" "_law_both" (defArgs s_law_both) (defBody s_law_both) (defScope s_law_both) .none kV42 dc42 pm42 an42 cd42 ct42), sl42⟩)
    (c42 : PySem.W.codeIn K cd42 "_law_both" = true)
    (k42 : PySem.W.keepIn K (.ref f42) = true)
    (a43 : PySem.W.nsIn K mainGlobals "_law_script_text" = some (some (.ref f43)))
    (l43 : K.lookup f43 = some ⟨oc43, od43, .func (PySem.W.fnOf "_law_script_text" "_law_script_text" (defArgs s_law_script_text) (defBody s_law_script_text) (defScope s_law_script_text) .none kV43 dc43 pm43 an43 cd43 ct43), sl43⟩)
    (c43 : PySem.W.codeIn K cd43 "_law_script_text" = true)
    (k43 : PySem.W.keepIn K (.ref f43) = true)
    (a44 : PySem.W.nsIn K mainGlobals "_law_bounds_text" = some (some (.ref f44)))
    (l44 : K.lookup f44 = some ⟨oc44, od44, .func (PySem.W.fnOf "_law_bounds_text" "_law_bounds_text" (defArgs s_law_bounds_text) (defBody s_law_bounds_text) (defScope s_law_bounds_text) .none kV44 dc44 pm44 an44 cd44 ct44), sl44⟩)
    (c44 : PySem.W.codeIn K cd44 "_law_bounds_text" = true)
    (k44 : PySem.W.keepIn K (.ref f44) = true)
    (a45 : PySem.W.nsIn K mainGlobals "_law_great_right" = some (some (.ref f45)))
    (l45 : K.lookup f45 = some ⟨oc45, od45, .func (PySem.W.fnOf "_law_great_right" "_law_great_right" (defArgs s_law_great_right) (defBody s_law_great_right) (defScope s_law_great_right) .none kV45 dc45 pm45 an45 cd45 ct45), sl45⟩)
    (c45 : PySem.W.codeIn K cd45 "_law_great_right" = true)
    (k45 : PySem.W.keepIn K (.ref f45) = true)
    (a46 : PySem.W.nsIn K mainGlobals "law" = some (some (.ref f46)))
    (l46 : K.lookup f46 = some ⟨oc46, od46, .func (PySem.W.fnOf "law" "law" (defArgs slaw) (defBody slaw) (defScope slaw) .none kV46 dc46 pm46 an46 cd46 ct46), sl46⟩)
    (c46 : PySem.W.codeIn K cd46 "law" = true)
    (k46 : PySem.W.keepIn K (.ref f46) = true)
    (gA : PySem.W.nsIn K mainGlobals "MOST_DIGITS" = some (some (.int 30 gAt)))
    (gB : PySem.W.nsIn K mainGlobals "MOST_NESTED" = some (some (.int 100 gBt)))
    (gC : PySem.W.nsIn K mainGlobals "REPEAT" = some (some (.str "repeat" gCt)))
    (gD : PySem.W.nsIn K mainGlobals "LETTERS" = some (some (.str "abcdefghijklmnopqrstuvwxyz" gDt)))
    (gE : PySem.W.nsIn K mainGlobals "NO_SYMBOL" = some (some (.str "-" gEt)))
    (gF : PySem.W.nsIn K mainGlobals "NO_NUMBER" = some (some (.str "none" gFt)))
    (gG : PySem.W.nsIn K mainGlobals "NUMBER_LIMIT" = some (some (.int 1000000000000000000000000000000 gGt)))
    (dm : PySem.W.nsIn K DK "minimum" = some (some (.int 0 tm)))
    (dx : PySem.W.nsIn K DK "maximum" = some (some .none))
    (aCI : PySem.W.nsIn K mainGlobals "InvalidLine" = some (some (.ref CI)))
    (xLI : K.lookup CI = some (excClassObj nmI qI CI NI bsI bmI true snI subI abI colI ddI m0I m1I m2I m3I m5I "ValueError.__new__"))
    (vbI : PySem.HandSPX.refsVE bmI = true)
    (saI : PySem.W.findIn K (.ref CI) "__setattr__" = some (some (.builtin "object.__setattr__")))
    (gaI : PySem.W.findIn K (.ref CI) "__getattribute__" = some (some (.builtin "BaseException.__getattribute__")))
    (ggI : PySem.W.findIn K (.ref CI) "__getattr__" = some none)
    (nbI : PySem.W.findIn K (.ref CI) "value" = some none)
    (iCI : PySem.W.findIn K (.ref CI) "__init__" = some (some (.ref gI)))
    (tfI : PySem.W.typeIn K (.ref gI) = some (.type "function"))
    (lfI : K.lookup gI = some ⟨ocI, odI, .func (PySem.W.fnOf "__init__" "InvalidLine.__init__" (PySem.EzValue.iA p1I p2I) (PySem.EzValue.iB q1I q2I q3I q4I) PySem.EzValue.iS .none .none dcI pmI anI cdI ctI), slI⟩)
    (cfI : PySem.W.codeIn K cdI "InvalidLine.__init__" = true)
    (kCI : PySem.W.keepIn K (.ref CI) = true)
    (eCI : PySem.W.subIn K (.ref CI) (.type "BaseException") = some true)
    (tCI : PySem.W.typeIn K (.ref CI) = some (.type "type"))
    (hCI : PySem.W.hasDictIn K CI = true)
    (jCI : PySem.W.isClsIn K CI = true)
    (sCI : PySem.W.subIn K (.ref CI) (.ref CI) = some true)
    (z_isinstance : PySem.W.nsIn K mainGlobals "isinstance" = some none)
    (z_int : PySem.W.nsIn K mainGlobals "int" = some none)
    (z_bool : PySem.W.nsIn K mainGlobals "bool" = some none)
    (z_str : PySem.W.nsIn K mainGlobals "str" = some none)
    (z_list : PySem.W.nsIn K mainGlobals "list" = some none)
    (z_tuple : PySem.W.nsIn K mainGlobals "tuple" = some none)
    (z_len : PySem.W.nsIn K mainGlobals "len" = some none)
    (z_all : PySem.W.nsIn K mainGlobals "all" = some none)
    (z_max : PySem.W.nsIn K mainGlobals "max" = some none)
    (z_min : PySem.W.nsIn K mainGlobals "min" = some none)
    (z_range : PySem.W.nsIn K mainGlobals "range" = some none)
    (z_repr : PySem.W.nsIn K mainGlobals "repr" = some none)
    (z_enumerate : PySem.W.nsIn K mainGlobals "enumerate" = some none)
    (tES : cd22 = .ref cTS)
    (tLS : K.lookup cTS = some ⟨ocTS, odTS, .fields vsTS, slTS⟩)
    (tVS : (vsTS[11]? : Option Value) = some (.ref pTS))
    (tNS : K.lookup pTS = none)
    (tRS : ((PyProof.Rows.recsOf q).find? fun d => d.name == ("read_script" : Str)).isSome = true)
    : ∃ xs : List (Str × Addr × Addr), TabsIn K q xs ∧ ∃ fd : FuncData, (∀ (s : Shared) (u : Value), BindsTo s fd ⟨[u], []⟩ [("_law_script_here", u)]) ∧ ∀ base : Heap, K.In base → base.Ns mainGlobals mg → SysIn base → (∀ e ∈ xs, LamX.TabB base mg e.2.1 e.2.2) → FnG P w K mg base CX0 152 fa fd ["_law_script_here"] (spTop K (xs.map (·.2))) := by
  have e := hfa.symm.trans (PySem.W.mg_of X G a46)
  cases e
  have tIS : PySem.W.tabIn K "read_script" = some (cTS, pTS) := tab_in a22 l22 tES tLS tVS
  have lowI : PySem.EzValue.LowTxt K mg "InvalidLine" "InvalidLine.__init__" CI gI :=
    { gC := PySem.W.mg_of X G aCI, cls := ⟨nmI, qI, NI, bsI, bmI, snI, subI, abI, colI, ddI, m0I, m1I, m2I, m3I, m5I, xLI, vbI⟩, sa := saI, ga := gaI, gg := ggI, noN := nbI, iC := iCI, tC := tfI, kC := kCI, exC := eCI, tyC := tCI, hdC := hCI,
      te := exm_selfG eCI jCI tCI sCI, fn := ⟨_, _, _, _, _, _, _, _, _, _, _, _, _, _, lfI, cfI⟩ }
  have F0 := fun_mk (st := sis_integer) l0 c0 k0
  have m0 := PySem.W.mg_of X G a0
  have F1 := fun_mk (st := sis_letter) l1 c1 k1
  have m1 := PySem.W.mg_of X G a1
  have F2 := fun_mk (st := sis_list) l2 c2 k2
  have m2 := PySem.W.mg_of X G a2
  have F3 := fun_mk (st := sis_index) l3 c3 k3
  have m3 := PySem.W.mg_of X G a3
  have F4 := fun_mk (st := sparse_count) l4 c4 k4
  have m4 := PySem.W.mg_of X G a4
  have F5 := fun_mk (st := sis_number) l5 c5 k5
  have m5 := PySem.W.mg_of X G a5
  have F6 := fun_mk (st := ssplit_words) l6 c6 k6
  have m6 := PySem.W.mg_of X G a6
  have F7 := fun_mk (st := sis_symbol) l7 c7 k7
  have m7 := PySem.W.mg_of X G a7
  have F8 := fun_mk (st := sis_pair) l8 c8 k8
  have m8 := PySem.W.mg_of X G a8
  have F9 := fun_mk (st := sis_pattern) l9 c9 k9
  have m9 := PySem.W.mg_of X G a9
  have F10 := fun_mk (st := sis_pattern_within) l10 c10 k10
  have m10 := PySem.W.mg_of X G a10
  have F11 := fun_mk (st := sis_repetition) l11 c11 k11
  have m11 := PySem.W.mg_of X G a11
  have F12 := fun_mk (st := srequire_pattern) l12 c12 k12
  have m12 := PySem.W.mg_of X G a12
  have F13 := fun_mk (st := ssymbol_word) l13 c13 k13
  have m13 := PySem.W.mg_of X G a13
  have F14 := fun_mk (st := snumber_word) l14 c14 k14
  have m14 := PySem.W.mg_of X G a14
  have F15 := fun_mk (st := ssymbol_of) l15 c15 k15
  have m15 := PySem.W.mg_of X G a15
  have F16 := fun_mk (st := sis_number_word) l16 c16 k16
  have m16 := PySem.W.mg_of X G a16
  have F17 := fun_mk (st := slines_of) l17 c17 k17
  have m17 := PySem.W.mg_of X G a17
  have F18 := fun_mk (st := srow_words) l18 c18 k18
  have m18 := PySem.W.mg_of X G a18
  have F19 := fun_mk (st := sheader_count) l19 c19 k19
  have m19 := PySem.W.mg_of X G a19
  have F20 := fun_mk (st := sread_rows) l20 c20 k20
  have m20 := PySem.W.mg_of X G a20
  have F21 := fun_mk (st := swrite_script) l21 c21 k21
  have m21 := PySem.W.mg_of X G a21
  have F22 := fun_mk (st := sread_script) l22 c22 k22
  have m22 := PySem.W.mg_of X G a22
  have F23 := fun_mk (st := spair_row) l23 c23 k23
  have m23 := PySem.W.mg_of X G a23
  have F24 := fun_mk (st := swrite_pattern) l24 c24 k24
  have m24 := PySem.W.mg_of X G a24
  have F25 := fun_mk (st := spattern_lines) l25 c25 k25
  have m25 := PySem.W.mg_of X G a25
  have F26 := fun_mk (st := sread_pattern) l26 c26 k26
  have m26 := PySem.W.mg_of X G a26
  have F27 := fun_mk (st := sread_item) l27 c27 k27
  have m27 := PySem.W.mg_of X G a27
  have F28 := fun_mk (st := swrite_bounds) l28 c28 k28
  have m28 := PySem.W.mg_of X G a28
  have F29 := fun_mk (st := sis_bounds) l29 c29 k29
  have m29 := PySem.W.mg_of X G a29
  have F30 := fun_mk (st := sis_bounds_entry) l30 c30 k30
  have m30 := PySem.W.mg_of X G a30
  have F31 := fun_mk (st := sread_bounds) l31 c31 k31
  have m31 := PySem.W.mg_of X G a31
  have F32 := fun_mk (st := sbounds_row) l32 c32 k32
  have m32 := PySem.W.mg_of X G a32
  have F33 := fun_mk (st := s_law_cell) l33 c33 k33
  have m33 := PySem.W.mg_of X G a33
  have F34 := fun_mk (st := s_law_box) l34 c34 k34
  have m34 := PySem.W.mg_of X G a34
  have F35 := fun_mk (st := s_law_take) l35 c35 k35
  have m35 := PySem.W.mg_of X G a35
  have F36 := fun_mk (st := s_law_spot) l36 c36 k36
  have m36 := PySem.W.mg_of X G a36
  have F37 := fun_mk (st := s_law_script) l37 c37 k37
  have m37 := PySem.W.mg_of X G a37
  have F38 := fun_mk (st := s_law_pattern) l38 c38 k38
  have m38 := PySem.W.mg_of X G a38
  have F39 := fun_mk (st := s_law_bounds) l39 c39 k39
  have m39 := PySem.W.mg_of X G a39
  have F40 := fun_mk (st := s_law_pattern_lines) l40 c40 k40
  have m40 := PySem.W.mg_of X G a40
  have F41 := fun_mk (st := s_law_tupled) l41 c41 k41
  have m41 := PySem.W.mg_of X G a41
  have F42 := fun_mk (st := s_law_both) l42 c42 k42
  have m42 := PySem.W.mg_of X G a42
  have F43 := fun_mk (st := s_law_script_text) l43 c43 k43
  have m43 := PySem.W.mg_of X G a43
  have F44 := fun_mk (st := s_law_bounds_text) l44 c44 k44
  have m44 := PySem.W.mg_of X G a44
  have F45 := fun_mk (st := s_law_great_right) l45 c45 k45
  have m45 := PySem.W.mg_of X G a45
  have F46 := fun_mk (st := slaw) l46 c46 k46
  have m46 := PySem.W.mg_of X G a46
  refine ⟨[("read_script", cTS, pTS)], fun e he => ?_, ?_⟩
  · simp only [List.mem_cons, List.not_mem_nil, or_false] at he
    subst he
    exact ⟨tIS, tNS, tRS⟩
  have b0 := F0.binds (ps := ["value"]) fun _ _ _ _ _ _ us hl => match us, hl with | [_], _ => rfl
  have b1 := F1.binds (ps := ["value"]) fun _ _ _ _ _ _ us hl => match us, hl with | [_], _ => rfl
  have b2 := F2.binds (ps := ["value"]) fun _ _ _ _ _ _ us hl => match us, hl with | [_], _ => rfl
  have b3 := F3.binds (ps := ["value", "size"]) fun _ _ _ _ _ _ us hl => match us, hl with | [_, _], _ => rfl
  have b5 := F5.binds (ps := ["text"]) fun _ _ _ _ _ _ us hl => match us, hl with | [_], _ => rfl
  have b6 := F6.binds (ps := ["line"]) fun _ _ _ _ _ _ us hl => match us, hl with | [_], _ => rfl
  have b7 := F7.binds (ps := ["value", "alphabet"]) fun _ _ _ _ _ _ us hl => match us, hl with | [_, _], _ => rfl
  have b8 := F8.binds (ps := ["value", "alphabet"]) fun _ _ _ _ _ _ us hl => match us, hl with | [_, _], _ => rfl
  have b9 := F9.binds (ps := ["value"]) fun _ _ _ _ _ _ us hl => match us, hl with | [_], _ => rfl
  have b10 := F10.binds (ps := ["value", "room"]) fun _ _ _ _ _ _ us hl => match us, hl with | [_, _], _ => rfl
  have b11 := F11.binds (ps := ["value"]) fun _ _ _ _ _ _ us hl => match us, hl with | [_], _ => rfl
  have b12 := F12.binds (ps := ["value"]) fun _ _ _ _ _ _ us hl => match us, hl with | [_], _ => rfl
  have b13 := F13.binds (ps := ["symbol"]) fun _ _ _ _ _ _ us hl => match us, hl with | [_], _ => rfl
  have b14 := F14.binds (ps := ["number"]) fun _ _ _ _ _ _ us hl => match us, hl with | [_], _ => rfl
  have b15 := F15.binds (ps := ["word"]) fun _ _ _ _ _ _ us hl => match us, hl with | [_], _ => rfl
  have b16 := F16.binds (ps := ["word"]) fun _ _ _ _ _ _ us hl => match us, hl with | [_], _ => rfl
  have b17 := F17.binds (ps := ["text"]) fun _ _ _ _ _ _ us hl => match us, hl with | [_], _ => rfl
  have b18 := F18.binds (ps := ["line"]) fun _ _ _ _ _ _ us hl => match us, hl with | [_], _ => rfl
  have b19 := F19.binds (ps := ["lines", "kind"]) fun _ _ _ _ _ _ us hl => match us, hl with | [_, _], _ => rfl
  have b20 := F20.binds (ps := ["lines", "many", "read"]) fun _ _ _ _ _ _ us hl => match us, hl with | [_, _, _], _ => rfl
  have b21 := F21.binds (ps := ["script"]) fun _ _ _ _ _ _ us hl => match us, hl with | [_], _ => rfl
  have b22 := F22.binds (ps := ["text"]) fun _ _ _ _ _ _ us hl => match us, hl with | [_], _ => rfl
  have b23 := F23.binds (ps := ["words"]) fun _ _ _ _ _ _ us hl => match us, hl with | [_], _ => rfl
  have b24 := F24.binds (ps := ["pattern"]) fun _ _ _ _ _ _ us hl => match us, hl with | [_], _ => rfl
  have b25 := F25.binds (ps := ["pattern"]) fun _ _ _ _ _ _ us hl => match us, hl with | [_], _ => rfl
  have b26 := F26.binds (ps := ["text"]) fun _ _ _ _ _ _ us hl => match us, hl with | [_], _ => rfl
  have b27 := F27.binds (ps := ["groups", "words"]) fun _ _ _ _ _ _ us hl => match us, hl with | [_, _], _ => rfl
  have b28 := F28.binds (ps := ["table"]) fun _ _ _ _ _ _ us hl => match us, hl with | [_], _ => rfl
  have b29 := F29.binds (ps := ["value"]) fun _ _ _ _ _ _ us hl => match us, hl with | [_], _ => rfl
  have b30 := F30.binds (ps := ["value"]) fun _ _ _ _ _ _ us hl => match us, hl with | [_], _ => rfl
  have b31 := F31.binds (ps := ["text"]) fun _ _ _ _ _ _ us hl => match us, hl with | [_], _ => rfl
  have b32 := F32.binds (ps := ["words", "before"]) fun _ _ _ _ _ _ us hl => match us, hl with | [_, _], _ => rfl
  have b33 := F33.binds (ps := ["_law_script_here", "_law_k"]) fun _ _ _ _ _ _ us hl => match us, hl with | [_, _], _ => rfl
  have b34 := F34.binds (ps := ["_law_cell_here"]) fun _ _ _ _ _ _ us hl => match us, hl with | [_], _ => rfl
  have b35 := F35.binds (ps := ["_law_box_here", "_law_many"]) fun _ _ _ _ _ _ us hl => match us, hl with | [_, _], _ => rfl
  have b36 := F36.binds (ps := ["_law_sign"]) fun _ _ _ _ _ _ us hl => match us, hl with | [_], _ => rfl
  have b37 := F37.binds (ps := ["_law_box_here"]) fun _ _ _ _ _ _ us hl => match us, hl with | [_], _ => rfl
  have b38 := F38.binds (ps := ["_law_box_here", "_law_deep"]) fun _ _ _ _ _ _ us hl => match us, hl with | [_, _], _ => rfl
  have b39 := F39.binds (ps := ["_law_box_here"]) fun _ _ _ _ _ _ us hl => match us, hl with | [_], _ => rfl
  have b40 := F40.binds (ps := ["_law_pattern_here"]) fun _ _ _ _ _ _ us hl => match us, hl with | [_], _ => rfl
  have b41 := F41.binds (ps := ["_law_pattern_here"]) fun _ _ _ _ _ _ us hl => match us, hl with | [_], _ => rfl
  have b42 := F42.binds (ps := ["_law_write", "_law_read", "_law_value", "_law_same", "_law_due"]) fun _ _ _ _ _ _ us hl => match us, hl with | [_, _, _, _, _], _ => rfl
  have b43 := F43.binds (ps := ["_law_pairs"]) fun _ _ _ _ _ _ us hl => match us, hl with | [_], _ => rfl
  have b44 := F44.binds (ps := ["_law_table"]) fun _ _ _ _ _ _ us hl => match us, hl with | [_], _ => rfl
  have b45 := F45.binds (ps := ["_law_box_here"]) fun _ _ _ _ _ _ us hl => match us, hl with | [_], _ => rfl
  have bd : ∃ ds, Vals [V.int 0, V.non] ds ∧ Binds K (PySem.W.fnOf "parse_count" "parse_count" (defArgs sparse_count) (defBody sparse_count) (defScope sparse_count) .none (.ref DK) dc4 pm4 an4 cd4 ct4) ["text", "minimum", "maximum"] ds :=
    ⟨[.int 0 tm, .none], .cons ⟨_, rfl⟩ (.cons rfl .nil), fun s us X hl => by
      obtain ⟨u, rfl⟩ : ∃ u, us = [u] := List.length_eq_one_iff.mp (by simpa using hl)
      exact BindsTo.of_looks fun M => KwChain.looks X (fun q hq => by
          simp only [List.mem_cons, List.not_mem_nil, or_false] at hq
          rcases hq with rfl | rfl
          · exact dm
          · exact dx) (pc_d u _ _)⟩
  refine ⟨PySem.W.fnOf "law" "law" (defArgs slaw) (defBody slaw) (defScope slaw) .none kV46 dc46 pm46 an46 cd46 ct46, fun s u => .of_eq rfl, fun base _ _ hs tbs => ?_⟩
  have TB : LamX.TabB base mg cTS pTS := tbs ("read_script", cTS, pTS) (List.mem_singleton.mpr rfl)
  have T : Txt K mg base := { sys := hs, g_MOST_DIGITS := ⟨_, PySem.W.mg_of X G gA, ⟨_, rfl⟩⟩, g_MOST_NESTED := ⟨_, PySem.W.mg_of X G gB, ⟨_, rfl⟩⟩, g_REPEAT := ⟨_, PySem.W.mg_of X G gC, ⟨_, rfl⟩⟩, g_LETTERS := ⟨_, PySem.W.mg_of X G gD, ⟨_, rfl⟩⟩, g_NO_SYMBOL := ⟨_, PySem.W.mg_of X G gE, ⟨_, rfl⟩⟩, g_NO_NUMBER := ⟨_, PySem.W.mg_of X G gF, ⟨_, rfl⟩⟩, g_NUMBER_LIMIT := ⟨_, PySem.W.mg_of X G gG, ⟨_, rfl⟩⟩, z_isinstance := PySem.W.mg_none_of X G z_isinstance, z_int := PySem.W.mg_none_of X G z_int, z_bool := PySem.W.mg_none_of X G z_bool, z_str := PySem.W.mg_none_of X G z_str, z_list := PySem.W.mg_none_of X G z_list, z_tuple := PySem.W.mg_none_of X G z_tuple, z_len := PySem.W.mg_none_of X G z_len, z_all := PySem.W.mg_none_of X G z_all, z_max := PySem.W.mg_none_of X G z_max, z_min := PySem.W.mg_none_of X G z_min, z_range := PySem.W.mg_none_of X G z_range, z_repr := PySem.W.mg_none_of X G z_repr, z_enumerate := PySem.W.mg_none_of X G z_enumerate }
  have D0 : Df P w K mg base CX0 1 "is_integer" _ _ ["value"] spIsInt := ⟨ok_isint F0 T, m0, k0, b0⟩
  have D1 : Df P w K mg base CX0 1 "is_letter" _ _ ["value"] (spAsk isLet) := ⟨ok_isletter F1 T, m1, k1, b1⟩
  have E1 : Df P w K mg base CX0 1 "is_letter" _ _ ["value"] spIsLetP := ⟨ok_isletterP F1 T, m1, k1, b1⟩
  have D2 : Df P w K mg base CX0 1 "is_list" _ _ ["value"] spIsList := ⟨ok_islist F2 T, m2, k2, b2⟩
  have D3 : Df P w K mg base CX0 2 "is_index" _ _ ["value", "size"] spIsIndex := ⟨ok_isindex F3 T D0, m3, k3, b3⟩
  have D11 : Df P w K mg base CX0 1 "is_repetition" _ _ ["value"] spIsRep := ⟨ok_isrep F11 T, m11, k11, b11⟩
  have D5 : Df P w K mg base CX0 1 "is_number" _ _ ["text"] spIsNum := ⟨ok_isnum F5 T, m5, k5, b5⟩
  have DP : Dd P w K mg base CX0 2 "parse_count" _ _ ["text", "minimum", "maximum"] [.int 0, .non] spParse0 := ⟨ok_parse F4 T D0 D5, m4, k4, bd⟩
  have D13 : Df P w K mg base CX0 1 "symbol_word" _ _ ["symbol"] spSymW := ⟨ok_symw F13 T, m13, k13, b13⟩
  have D15 : Df P w K mg base CX0 1 "symbol_of" _ _ ["word"] spSymOf := ⟨ok_symof F15 T, m15, k15, b15⟩
  have D14 : Df P w K mg base CX0 1 "number_word" _ _ ["number"] spNumW := ⟨ok_numw F14 T, m14, k14, b14⟩
  have D16 : Df P w K mg base CX0 3 "is_number_word" _ _ ["word"] spIsNumW := ⟨ok_isnumw F16 T DP, m16, k16, b16⟩
  have D36 : Df P w K mg base CX0 1 "_law_spot" _ _ ["_law_sign"] spSymW := ⟨ok_spot F36 T, m36, k36, b36⟩
  have D17 : Df P w K mg base CX0 1 "lines_of" _ _ ["text"] spLines := ⟨ok_lines F17 T, m17, k17, b17⟩
  have D6 : Df P w K mg base CX0 1 "split_words" _ _ ["line"] spWords := ⟨ok_words F6 T, m6, k6, b6⟩
  have D18 : Df P w K mg base CX0 2 "row_words" _ _ ["line"] spWords := ⟨ok_row F18 T lowI D6, m18, k18, b18⟩
  have D7 : Df P w K mg base CX0 2 "is_symbol" _ _ ["value", "alphabet"] spIsSym := ⟨ok_issym F7 T D1, m7, k7, b7⟩
  have D8 : Df P w K mg base CX0 3 "is_pair" _ _ ["value", "alphabet"] spIsPair := ⟨ok_ispair F8 T D7, m8, k8, b8⟩
  have D19 : Df P w K mg base CX0 3 "header_count" _ _ ["lines", "kind"] spHead := ⟨ok_head F19 T D18 DP, m19, k19, b19⟩
  have D23 : Df P w K mg base CX0 4 "pair_row" _ _ ["words"] spPairRow := ⟨ok_pairrow F23 T D15 D8, m23, k23, b23⟩
  have D21 : Df P w K mg base CX0 4 "write_script" _ _ ["script"] spWrS := ⟨ok_wrs F21 T D2 D8 D13, m21, k21, b21⟩
  have A5 := all_within (P := P) (w := w) F10 T D2 E1 D11 m10 k10 b10 100
  have D10 : Df P w K mg base CX0 102 "is_pattern_within" _ _ ["value", "room"] (spW 100) := ⟨A5, m10, k10, b10⟩
  have D9 : Df P w K mg base CX0 103 "is_pattern" _ _ ["value"] spIsP := ⟨ok_isp F9 T D10, m9, k9, b9⟩
  have D12 : Df P w K mg base CX0 104 "require_pattern" _ _ ["value"] spReqP := ⟨ok_reqp F12 T D9, m12, k12, b12⟩
  have D25 : Df P w K mg base CX0 102 "pattern_lines" _ _ ["pattern"] (spPln 100) := ⟨all_pln F25 T D11 m25 k25 b25 100, m25, k25, b25⟩
  have D24 : Df P w K mg base CX0 150 "write_pattern" _ _ ["pattern"] spWrP := ⟨(ok_wrp F24 T D12 D25).mono (by decide), m24, k24, b24⟩
  have D27 : Df P w K mg base CX0 2 "read_item" _ _ ["groups", "words"] spItem := ⟨ok_item F27 T E1, m27, k27, b27⟩
  have D26 : Df P w K mg base CX0 150 "read_pattern" _ _ ["text"] spReadP := ⟨(ok_readp F26 T D17 D18 D27).mono (by decide), m26, k26, b26⟩
  have D30 : Df P w K mg base CX0 3 "is_bounds_entry" _ _ ["value"] spEntry := ⟨ok_entry F30 T D3 D2, m30, k30, b30⟩
  have D29 : Df P w K mg base CX0 4 "is_bounds" _ _ ["value"] spIsB := ⟨ok_isb F29 T D2 D30, m29, k29, b29⟩
  have D28 : Df P w K mg base CX0 5 "write_bounds" _ _ ["table"] spWrB := ⟨ok_wrb F28 T D29 D14, m28, k28, b28⟩
  have D32 : Df P w K mg base CX0 4 "bounds_row" _ _ ["words", "before"] spBRow := ⟨ok_brow F32 T DP D16, m32, k32, b32⟩
  have RB : ∀ H0 : Hp, Df P w K mg base CX0 6 "read_rows" _ _ ["lines", "many", "read"] (spRows f32 (fun _ => True) (fun vs H Q => spBRow vs H Q E0) (fun e : Nat × List (Option Nat) => nw e.1 :: e.2.map oW) (fun F H us l => ∃ qs, BnF H0 F H us l qs)) :=
    fun H0 => ⟨ok_rows (bnF_stands H0) F20 T D18 ((Cal.def F32 D32.G b32).mono (by decide)), m20, k20, b20⟩
  have RS : Df P w K mg base CX0 6 "read_rows" _ _ ["lines", "many", "read"] (fun vs H Q E => ∃ i : Addr × Addr, spRows i.1 (fun H => H i.1 = some (LamO i.1 i.2 qL (lArgs eLam) (lBody eLam) (lScope eLam)) ∧ H i.2 = some (LamX.CodeO i.2 qL)) spRowL (fun p : Str × Str => [swd p.1, swd p.2]) PrF vs H Q E) :=
    ⟨FnG.ex fun i => ok_rows prF_stands F20 T D18 (cal_row D23), m20, k20, b20⟩
  have D31 : Df P w K mg base CX0 7 "read_bounds" _ _ ["text"] (spReadB K) := ⟨ok_readb F31 T D17 D19 D32 RB, m31, k31, b31⟩
  have D22 : Df P w K mg base CX0 7 "read_script" _ _ ["text"] (spReadS K pTS) := ⟨ok_reads F22 T TB tES D17 D19 RS, m22, k22, b22⟩
  have D33 : Df P w K mg base CX0 1 "_law_cell" _ _ ["_law_script_here", "_law_k"] (spScr K) := ⟨ok_cell F33 T, m33, k33, b33⟩
  have D34 : Df P w K mg base CX0 1 "_law_box" _ _ ["_law_cell_here"] spBoxC := ⟨ok_box F34 T, m34, k34, b34⟩
  have D35 : Df P w K mg base CX0 1 "_law_take" _ _ ["_law_box_here", "_law_many"] spTakeC := ⟨ok_take F35, m35, k35, b35⟩
  have D37 : Df P w K mg base CX0 2 "_law_script" _ _ ["_law_box_here"] spScript := ⟨ok_script F37 T D35, m37, k37, b37⟩
  have D38 : Df P w K mg base CX0 7 "_law_pattern" _ _ ["_law_box_here", "_law_deep"] (spPat 5) := ⟨all_pat F38 T D35 m38 k38 b38 5, m38, k38, b38⟩
  have D39 : Df P w K mg base CX0 2 "_law_bounds" _ _ ["_law_box_here"] spBounds := ⟨ok_lbounds F39 T D35, m39, k39, b39⟩
  have D40 : Df P w K mg base CX0 150 "_law_pattern_lines" _ _ ["_law_pattern_here"] (spPln 100) := ⟨(all_lpln F40 T m40 k40 b40 100).mono (by decide), m40, k40, b40⟩
  have D41 : Df P w K mg base CX0 150 "_law_tupled" _ _ ["_law_pattern_here"] (spTurn 100) := ⟨(all_tupled F41 T m41 k41 b41 100).mono (by decide), m41, k41, b41⟩
  have D42 : Df P w K mg base CX0 151 "_law_both" _ _ ["_law_write", "_law_read", "_law_value", "_law_same", "_law_due"] (spBoth3 K pTS f21 f22 f24 f26 f28 f31) := ⟨(ok_both F42 T ((Cal.def F21 D21.G b21).mono (by decide)) ((Cal.def F22 D22.G b22).mono (by decide))).or3 (ok_both F42 T ((Cal.def F24 D24.G b24).mono (by decide)) ((Cal.def F26 D26.G b26).mono (by decide))) (ok_both F42 T ((Cal.def F28 D28.G b28).mono (by decide)) ((Cal.def F31 D31.G b31).mono (by decide))), m42, k42, b42⟩
  have D43 : Df P w K mg base CX0 2 "_law_script_text" _ _ ["_law_pairs"] spText := ⟨ok_stext F43 T D36, m43, k43, b43⟩
  have D44 : Df P w K mg base CX0 1 "_law_bounds_text" _ _ ["_law_table"] spBText := ⟨ok_btext F44 T, m44, k44, b44⟩
  have D45 : Df P w K mg base CX0 151 "_law_great_right" _ _ ["_law_box_here"] (spGreat pTS) := ⟨ok_great F45 T D35 D21 D22 D28 D31 D24 D26, m45, k45, b45⟩
  refine FnG.imp (ok_law F46 T D33 D34 D35 D37 D38 D39 D21 D22 D24 D26 D28 D31 D42 D43 D40 D41 D44 D45) fun vs H Q E h => ?_
  obtain ⟨a, ns, rfl, h1, h2, h3, h4⟩ := h
  exact ⟨a, ns, rfl, h1, h2, LamX.TabS.nil (h3 (cTS, pTS) (List.mem_singleton.mpr rfl)), h4⟩
theorem walk {l : PySem.W.OpenLaw} {q : Program} {loose : List Str} {XP : (Str → Option Value) → Heap → Prop} {YP : World → Heap → Prop} {d : DefRec} {K : Params → PySem.W.Frag} (hn : l.most = some 63) (hdf : d.params.defaults = []) (himp : importsNone q = true)
    (hY : ∀ (w : World) (h : Heap), YP w h → (K w.params).In h)
    (F : ∀ (w : World) (mg : Str → Option Value) (fa : Addr) (h : Heap), (K w.params).In h → h.Ns mainGlobals mg → mg d.name = some (.ref fa) → ∃ xs : List (Str × Addr × Addr), TabsIn (K w.params) q xs ∧
      ∃ fd : FuncData, (∀ (s : Shared) (u : Value), BindsTo s fd ⟨[u], []⟩ [("_law_script_here", u)]) ∧ ∀ base : Heap, (K w.params).In base → base.Ns mainGlobals mg → SysIn base → (∀ e ∈ xs, LamX.TabB base mg e.2.1 e.2.2) → FnG l.prog w (K w.params) mg base CX0 152 fa fd ["_law_script_here"] (spTop (K w.params) (xs.map (·.2)))) :
    PySem.W.WalkO q loose XP YP l.row.toRowW d [] (fun f vs => PySem.call f vs) :=
  Gd.walkT (n := 63) (k := 152) (x := "_law_script_here") (CX := fun _ => CX0) (sp := fun w cs => spTop (K w.params) cs) hn (by decide) hdf ⟨rfl, by decide, by decide⟩ himp hY F
    (fun _ cs H a ns hl hH hS => ⟨a, ns, rfl, hS, hl, hH, fun _ => rfl⟩) fun _ _ _ _ _ z => z
end KW
open PySem PySem.W PyProof.Rows
set_option maxRecDepth 100000 in
set_option maxHeartbeats 0 in
theorem PySem.Challenge.cw_formatrepair_k72_texts_of_scripts_patter_holds : PySem.Challenge.rw_formatrepair_k72_texts_of_scripts_patter.Holds := by
  w_on; o_law; k_head; (case hw => w_witness2)
  k_fill
  refine KW.walk (l := PySem.Challenge.rw_formatrepair_k72_texts_of_scripts_patter) rfl rfl rfl (fun w h Y => PySem.W.km_in_of Y) ?F
  case F =>
    intro w mg fa h KX G hmg
    refine' KW.all_mk KX G hmg ?a0 ?l0 ?c0 ?k0 ?a1 ?l1 ?c1 ?k1 ?a2 ?l2 ?c2 ?k2 ?a3 ?l3 ?c3 ?k3 ?a4 ?l4 ?c4 ?k4 ?a5 ?l5 ?c5 ?k5 ?a6 ?l6 ?c6 ?k6 ?a7 ?l7 ?c7 ?k7 ?a8 ?l8 ?c8 ?k8 ?a9 ?l9 ?c9 ?k9 ?a10 ?l10 ?c10 ?k10 ?a11 ?l11 ?c11 ?k11 ?a12 ?l12 ?c12 ?k12 ?a13 ?l13 ?c13 ?k13 ?a14 ?l14 ?c14 ?k14 ?a15 ?l15 ?c15 ?k15 ?a16 ?l16 ?c16 ?k16 ?a17 ?l17 ?c17 ?k17 ?a18 ?l18 ?c18 ?k18 ?a19 ?l19 ?c19 ?k19 ?a20 ?l20 ?c20 ?k20 ?a21 ?l21 ?c21 ?k21 ?a22 ?l22 ?c22 ?k22 ?a23 ?l23 ?c23 ?k23 ?a24 ?l24 ?c24 ?k24 ?a25 ?l25 ?c25 ?k25 ?a26 ?l26 ?c26 ?k26 ?a27 ?l27 ?c27 ?k27 ?a28 ?l28 ?c28 ?k28 ?a29 ?l29 ?c29 ?k29 ?a30 ?l30 ?c30 ?k30 ?a31 ?l31 ?c31 ?k31 ?a32 ?l32 ?c32 ?k32 ?a33 ?l33 ?c33 ?k33 ?a34 ?l34 ?c34 ?k34 ?a35 ?l35 ?c35 ?k35 ?a36 ?l36 ?c36 ?k36 ?a37 ?l37 ?c37 ?k37 ?a38 ?l38 ?c38 ?k38 ?a39 ?l39 ?c39 ?k39 ?a40 ?l40 ?c40 ?k40 ?a41 ?l41 ?c41 ?k41 ?a42 ?l42 ?c42 ?k42 ?a43 ?l43 ?c43 ?k43 ?a44 ?l44 ?c44 ?k44 ?a45 ?l45 ?c45 ?k45 ?a46 ?l46 ?c46 ?k46 ?gA ?gB ?gC ?gD ?gE ?gF ?gG ?dm ?dx ?aCI ?xLI ?vbI ?saI ?gaI ?ggI ?nbI ?iCI ?tfI ?lfI ?cfI ?kCI ?eCI ?tCI ?hCI ?jCI ?sCI ?z_isinstance ?z_int ?z_bool ?z_str ?z_list ?z_tuple ?z_len ?z_all ?z_max ?z_min ?z_range ?z_repr ?z_enumerate ?tES ?tLS ?tVS ?tNS ?tRS
    (case a0 => k_is)
    (case l0 => k_is)
    (case c0 => k_is)
    (case k0 => k_is)
    (case a1 => k_is)
    (case l1 => k_is)
    (case c1 => k_is)
    (case k1 => k_is)
    (case a2 => k_is)
    (case l2 => k_is)
    (case c2 => k_is)
    (case k2 => k_is)
    (case a3 => k_is)
    (case l3 => k_is)
    (case c3 => k_is)
    (case k3 => k_is)
    (case a4 => k_is)
    (case l4 => k_is)
    (case c4 => k_is)
    (case k4 => k_is)
    (case a5 => k_is)
    (case l5 => k_is)
    (case c5 => k_is)
    (case k5 => k_is)
    (case a6 => k_is)
    (case l6 => k_is)
    (case c6 => k_is)
    (case k6 => k_is)
    (case a7 => k_is)
    (case l7 => k_is)
    (case c7 => k_is)
    (case k7 => k_is)
    (case a8 => k_is)
    (case l8 => k_is)
    (case c8 => k_is)
    (case k8 => k_is)
    (case a9 => k_is)
    (case l9 => k_is)
    (case c9 => k_is)
    (case k9 => k_is)
    (case a10 => k_is)
    (case l10 => k_is)
    (case c10 => k_is)
    (case k10 => k_is)
    (case a11 => k_is)
    (case l11 => k_is)
    (case c11 => k_is)
    (case k11 => k_is)
    (case a12 => k_is)
    (case l12 => k_is)
    (case c12 => k_is)
    (case k12 => k_is)
    (case a13 => k_is)
    (case l13 => k_is)
    (case c13 => k_is)
    (case k13 => k_is)
    (case a14 => k_is)
    (case l14 => k_is)
    (case c14 => k_is)
    (case k14 => k_is)
    (case a15 => k_is)
    (case l15 => k_is)
    (case c15 => k_is)
    (case k15 => k_is)
    (case a16 => k_is)
    (case l16 => k_is)
    (case c16 => k_is)
    (case k16 => k_is)
    (case a17 => k_is)
    (case l17 => k_is)
    (case c17 => k_is)
    (case k17 => k_is)
    (case a18 => k_is)
    (case l18 => k_is)
    (case c18 => k_is)
    (case k18 => k_is)
    (case a19 => k_is)
    (case l19 => k_is)
    (case c19 => k_is)
    (case k19 => k_is)
    (case a20 => k_is)
    (case l20 => k_is)
    (case c20 => k_is)
    (case k20 => k_is)
    (case a21 => k_is)
    (case l21 => k_is)
    (case c21 => k_is)
    (case k21 => k_is)
    (case a22 => k_is)
    (case l22 => k_is)
    (case c22 => k_is)
    (case k22 => k_is)
    (case a23 => k_is)
    (case l23 => k_is)
    (case c23 => k_is)
    (case k23 => k_is)
    (case a24 => k_is)
    (case l24 => k_is)
    (case c24 => k_is)
    (case k24 => k_is)
    (case a25 => k_is)
    (case l25 => k_is)
    (case c25 => k_is)
    (case k25 => k_is)
    (case a26 => k_is)
    (case l26 => k_is)
    (case c26 => k_is)
    (case k26 => k_is)
    (case a27 => k_is)
    (case l27 => k_is)
    (case c27 => k_is)
    (case k27 => k_is)
    (case a28 => k_is)
    (case l28 => k_is)
    (case c28 => k_is)
    (case k28 => k_is)
    (case a29 => k_is)
    (case l29 => k_is)
    (case c29 => k_is)
    (case k29 => k_is)
    (case a30 => k_is)
    (case l30 => k_is)
    (case c30 => k_is)
    (case k30 => k_is)
    (case a31 => k_is)
    (case l31 => k_is)
    (case c31 => k_is)
    (case k31 => k_is)
    (case a32 => k_is)
    (case l32 => k_is)
    (case c32 => k_is)
    (case k32 => k_is)
    (case a33 => k_is)
    (case l33 => k_is)
    (case c33 => k_is)
    (case k33 => k_is)
    (case a34 => k_is)
    (case l34 => k_is)
    (case c34 => k_is)
    (case k34 => k_is)
    (case a35 => k_is)
    (case l35 => k_is)
    (case c35 => k_is)
    (case k35 => k_is)
    (case a36 => k_is)
    (case l36 => k_is)
    (case c36 => k_is)
    (case k36 => k_is)
    (case a37 => k_is)
    (case l37 => k_is)
    (case c37 => k_is)
    (case k37 => k_is)
    (case a38 => k_is)
    (case l38 => k_is)
    (case c38 => k_is)
    (case k38 => k_is)
    (case a39 => k_is)
    (case l39 => k_is)
    (case c39 => k_is)
    (case k39 => k_is)
    (case a40 => k_is)
    (case l40 => k_is)
    (case c40 => k_is)
    (case k40 => k_is)
    (case a41 => k_is)
    (case l41 => k_is)
    (case c41 => k_is)
    (case k41 => k_is)
    (case a42 => k_is)
    (case l42 => k_is)
    (case c42 => k_is)
    (case k42 => k_is)
    (case a43 => k_is)
    (case l43 => k_is)
    (case c43 => k_is)
    (case k43 => k_is)
    (case a44 => k_is)
    (case l44 => k_is)
    (case c44 => k_is)
    (case k44 => k_is)
    (case a45 => k_is)
    (case l45 => k_is)
    (case c45 => k_is)
    (case k45 => k_is)
    (case a46 => k_is)
    (case l46 => k_is)
    (case c46 => k_is)
    (case k46 => k_is)
    (case gA => k_is)
    (case gB => k_is)
    (case gC => k_is)
    (case gD => k_is)
    (case gE => k_is)
    (case gF => k_is)
    (case gG => k_is)
    (case dm => k_is)
    (case dx => k_is)
    (case aCI => k_is)
    (case xLI => k_is)
    (case vbI => decide +kernel)
    (case saI => k_is)
    (case gaI => k_is)
    (case ggI => k_is)
    (case nbI => k_is)
    (case iCI => k_is)
    (case tfI => k_is)
    (case lfI => k_is)
    (case cfI => k_is)
    (case kCI => k_is)
    (case eCI => k_is)
    (case tCI => k_is)
    (case hCI => k_is)
    (case jCI => k_is)
    (case sCI => first | rfl | k_is)
    (case z_isinstance => k_is)
    (case z_int => k_is)
    (case z_bool => k_is)
    (case z_str => k_is)
    (case z_list => k_is)
    (case z_tuple => k_is)
    (case z_len => k_is)
    (case z_all => k_is)
    (case z_max => k_is)
    (case z_min => k_is)
    (case z_range => k_is)
    (case z_repr => k_is)
    (case z_enumerate => k_is)
    (case tES => rfl)
    (case tLS => k_is)
    (case tVS => rfl)
    (case tNS => first | k_is | rfl | decide +kernel)
    (case tRS => rfl)
