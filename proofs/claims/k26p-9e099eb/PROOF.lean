import PyProof.Rows.All
import Wide.All
import OpenK.AllK
import Wide.FinOn
import PyProof.ReprRoads
import HandS.Base
import HandS.Call
import HandS.List
import HandS.Dict
import HandS.Ends
import HandS.Words
import HandS.Exc
import HandS.ExcOwn
import HandS.TryOnly
import HandS.TryMany
import HandS.Defaults
import PyProof.StrLawsRepr
import HandS.Wide
import HandS.Comp
import HandS.Iter
import HandS.Text
import HandS.More
import HandS.Style
import HandS.StrMore
import HandS.IsInst
import HandS.Replace
import HandS.RaiseMore
import HandS.WordsList
import HandS.WordsDict
import HandS.WordsExc
import HandS.Walk
import HandS.Codes
import PyProof.Rows.StrFin3
import HandS.SetTxt0
import HandS.Set
import HandS.Strs
import HandS.ExcValue
import KE.KDictPairs
import PyProof.ListStr
import PyProof.CollectStr
import HandS.MakeKwOnly
import HandS.DictComp
import PyProof.DictCompW
import HandS.Zip0
import HandS.Zip
import HandS.Star
import HandS.SetFor
import PyProof.EqKinds
import PyProof.Rows.CountFlat
import HandS.SortKw
import KE.IntTextLaws
import PyProof.StrLawsAffix
import PyProof.Draws
import HandS.Gcd
import HandS.RevRange
import HandS.DictTup
import HandS.ListItems
import PySem.Challenge.RW_formatrepair_k26_whole_cheapest_scripts
set_option Elab.async false
set_option linter.all false
set_option maxRecDepth 100000
set_option maxHeartbeats 4000000
namespace Gd
open PySem PySem.Spec PyProof.Rows L2
/-- no repr is under way -/
def Clean (A : Around) : Prop := A.guards = some []
/-- a contract that holds where no repr is under way -/
structure FnG (P : Program) (w : World) (K : PySem.W.Frag) (mg : Str → Option Value) (base : Heap) (CX : CXT) (k : Nat) (f : Addr) (fd : FuncData) (ps : List Str) (sp : Sp) : Prop where
  len : ∀ vs H Q E, sp vs H Q E → vs.length = ps.length
  run : ∀ (A : Around) (outer : List Env) (s : Shared) (H : Hp) (args : Args) (us : List Value) (vs : List V) (Q : VK) (E : XK), Clean A → Room k A →
    Env0 P w K mg base A outer s H → BindsTo s fd args (ps.zip us) → Vals vs us → sp vs H Q E →
    codeAny (model P w) A (.call (.ref f) args) (CR CX outer P w H s Q E) s
section
variable {P : Program} {w : World} {K : PySem.W.Frag} {mg : Str → Option Value} {base : Heap} {CX : CXT} {k j : Nat} {f : Addr} {fd : FuncData} {ps : List Str} {sp : Sp}
theorem FnG.of (F : FnOk P w K mg base CX k f fd ps sp) : FnG P w K mg base CX k f fd ps sp :=
  ⟨F.len, fun A outer s H args us vs Q E _ hr e0 hb r h => F.run A outer s H args us vs Q E hr e0 hb r h⟩
theorem FnG.mono (F : FnG P w K mg base CX j f fd ps sp) (h : j ≤ k) : FnG P w K mg base CX k f fd ps sp :=
  ⟨F.len, fun A outer s H args us vs Q E hc hr e0 hb r q => F.run A outer s H args us vs Q E hc (hr.mono h) e0 hb r q⟩
/-- a def of the text keeps its contract: its body as rules, and their reading -/
theorem okG {CX : CXT} {x qual : Str} {st : Stmt} {N : List Str} (F : Fun K x qual st f fd) (S : FnScope N ps (defScope st)) (len : ∀ vs H Q E, sp vs H Q E → vs.length = ps.length)
    (hbody : ∀ (cdv : Value) (A : Around) (outer : List Env) (s : Shared) (H : Hp) (vs : List V) (Q : VK) (E : XK), Clean A → Room k (A.deeper (envOfC qual (defScope st) s.heap.objs.size f cdv)) → sp vs H Q E →
      ∃ t, PSs (cxOf CX P w K mg base N qual (defScope st) f cdv A outer s H E) (defBody st) t ∧ t { nx := fun _ H' => Q .non H', rt := Q } (start N vs) H) : FnG P w K mg base CX (k + 1) f fd ps sp := by
  obtain ⟨oc, od, kV, doc, pm, an, cdv, ct, osl, efd, lk, hcd⟩ := F.ex
  subst efd
  refine ⟨len, fun A outer s H args us vs Q E hc hr e0 hb r hsp => ?_⟩
  have bk : ∀ b o, base.get? b = some o → s.heap.get? b = some o := fun b o e => (e0.bs b o e).1
  have KX : K.In s.heap := e0.mod.kin.keeps bk
  have hkind : ∀ y ∈ ps.zip us, (defScope st).names.lookup y.1 = some .local ∨ ((defScope st).names.lookup y.1 = some .cell ∧ ((cellsFrom (s.heap.objs.size + 1) (defScope st).names []).lookup y.1).isSome = true) := by
    rintro ⟨n, v⟩ hy
    exact (S.par n (List.of_mem_zip hy).1).imp id fun q => ⟨q, PySem.W.cellsFrom_some _ _ _ (.inl q)⟩
  refine codeAny_call_function hr.depth (KX _ _ lk) rfl S.co S.gen rfl (PySem.W.codeRec_of KX hcd) (hb _ _ _ _ (wpAny_newFunctionEnv_cells S.kind hkind ?_))
  intro env he s1 x
  subst he
  refine ⟨(e0.mod.nolimit.keeps bk).keeps x.toInCall.keep, codeAny_func ?_⟩
  obtain ⟨t, ht, hq⟩ := hbody cdv A outer s H vs Q E hc (hr.deeper _) hsp
  have I := inv_start (CX := CX) (E := E) S hr.hd e0 (len _ _ _ _ hsp) r x
  refine wpAny_mono (ht.run [] s1 (start N vs) H _ I hq) (fun fl s' hs => ?_) fun _ _ z => z
  match fl, hs with
  | .ret u, ⟨v, σ', H', J, rv, q⟩ => exact ⟨v, H', J.os, J.bare, J.base, J.hok, rv, q⟩
  | .next, ⟨σ', H', J, q⟩ => exact ⟨V.non, H', J.os, J.bare, J.base, J.hok, rfl, q⟩
  | .brk, ⟨_, _, _, q⟩ => exact q.elim
  | .cont, ⟨_, _, _, q⟩ => exact q.elim
end
section
variable {X : Cx} {CX : CXT} {k : Nat} {f : Addr} {fd : FuncData} {ps ks : List Str} {sp : Sp} {dvs : List V} {ds : List Value} {E : XK} {x : Str} {p pos : Pos} {e : Expr} {es : List Expr} {t tk : TA} {kws : List Keyword}
theorem runG {pins : List (Addr × Obj)} {σ : L2.St} {H : Hp} {s : Shared} {Q : VK} {us : List Value} {vs : List V} (F : FnG X.prog X.w X.K X.mg X.base CX k f fd ps sp) (hc : Clean X.A) (hr : Room k X.A)
    (hb : Binds X.K fd ps ds) (hd : Vals dvs ds) (hx : Passes CX X E) (I : Inv X pins σ H s) (r : Vals vs us) (h : sp (vs ++ dvs) H Q E) :
    wpAny (model X.prog X.w) X.A (call (.ref f) us) (EP X pins σ Q) X.xe s := by
  have r2 := r.append hd
  have hl : (us ++ ds).length = ps.length := r2.length ▸ F.len _ _ _ _ h
  refine wpAny_call (codeAny_mono (F.run X.A X.stack s H ⟨us, []⟩ (us ++ ds) (vs ++ dvs) Q E hc hr I.env0 (hb s us I.kIn hl) r2 h) ?_)
  intro r s' hq
  match r, hq with
  | .error e, hq => exact hx pins σ H s e s' I hq
  | .ok (.ret u), hq => exact I.after hq
  | .ok .next, hq => exact False.elim hq
  | .ok .brk, hq => exact False.elim hq
  | .ok .cont, hq => exact False.elim hq
theorem pe_callG (F : FnG X.prog X.w X.K X.mg X.base CX k f fd ps sp) (hc : Clean X.A) (hr : Room k X.A) (hg : Gl X x) (hm : X.mg x = some (.ref f)) (hk : PySem.W.keepIn X.K (.ref f) = true)
    (hb : Binds X.K fd ps ds) (hd : Vals dvs ds) (hx : Passes CX X E) (ha : PA X (e :: es) t) (hdb : (x == ("__debug__" : Str)) = false := by decide)
    (he : starEach (e :: es) X.env = (false, eval e X.env) :: starEach es X.env := by rfl) (hpl : (backTo pos (starEach es X.env)).any (·.1) = false := by rfl) :
    PE X (.Call (.Name x p) (e :: es) [] pos) (tCall sp dvs E t) := by
  refine ⟨fun pins s σ H Q I h => wpAny_Call_Name_kw (ld_glob I hg hm ?_ hdb)⟩
  exact PySem.W.callWith_K (h₀ := X.base) I.ok.mod.kin hk (thn (ha.run pos pins s σ H _ I h) fun us s1 ⟨vs, H1, I1, r, q⟩ => ⟨I1.kIn, runG F hc hr hb hd hx I1 r q⟩) he hpl
end

/-! the end of a law -/
section
variable {P : Program} {w : World} {K : PySem.W.Frag} {mg mb : Str → Option Value} {CX : CXT} {k : Nat} {fa a : Addr} {fd : FuncData} {x : Str} {sp : Sp} {s : Shared} {vs : List Value} {ns : List Int}
/-- the table of modules stands in the fixed part -/
abbrev SysIn (base : Heap) : Prop := ∃ o, base.get? sysModules = some o
abbrev scriptObj (vs : List Value) : Obj := { cls := .type "list", data := .seq vs.toArray }
abbrev Done (s : Shared) (r : Result) (s' : Shared) : Prop := r = .ok (.ret (.bool true)) ∧ OldK s.heap s'.heap ∧ s'.os = s.os ∧ AllBare s'.gens
/-- from a heap in which the script alone may be tracked -/
theorem law_core (KX : K.In s.heap) (hns : s.heap.Ns mainGlobals mg) (hb : s.heap.Ns builtinsNs mb) (hbb : ∀ x : Str, x ≠ "__name__" → mb x = bootBuiltins x) (hlim : s.heap.NoLimit) (hsy : ∃ mm, s.heap.Ns sysModules mm) (hg : s.gens = #[])
    (ha : s.heap.get? a = some (scriptObj vs)) (hr : Room k callerA)
    (F : ∀ base : Heap, K.In base → base.Ns mainGlobals mg → SysIn base → FnG P w K mg base CX k fa fd [x] sp) (hbind : ∀ (s : Shared) (u : Value), BindsTo s fd ⟨[u], []⟩ [(x, u)])
    (H : Hp) (hO : Only H) (hok : HOk P w H s.heap) (hA : ∀ b, H b ≠ none → b = a) (hK : H a ≠ none → K.lookup a = none)
    (hsp : sp [.ref a] H (fun v _ => v = .bl true) fun _ _ _ => False) (hCX : ∀ e s', CX [] H s (fun _ _ _ => False) e s' → False) :
    codeAny (model P w) callerA (.call (.ref fa) ⟨[.ref a], []⟩) (Done s) s := by
  have notA : ∀ {b : Addr}, b ≠ a → H b = none := fun {b} hb => Classical.byContradiction fun q => hb (hA b q)
  have nsA : ∀ {b : Addr} {m : Str → Option Value}, s.heap.Ns b m → (hidT s.heap H).Ns b m := by
    rintro b m ⟨o, es, ep, e, d, r⟩
    have hb : b ≠ a := by
      rintro rfl
      rw [ha] at e
      cases e
      exact nomatch (d : Data.seq vs.toArray _ = Data.dict es ep)
    exact ⟨o, es, ep, hidT_get e (notA hb), d, r⟩
  have inB : K.In (hidT s.heap H) := fun b o e => hidT_get (KX b o e) (Classical.byContradiction fun q => by
    have hb := hA b q
    subst hb
    rw [hK q] at e
    exact nomatch e)
  have md : Mod K mg (hidT s.heap H) := ⟨inB, nsA hns, ⟨mb, nsA hb, hbb⟩, hlim.imp fun _ h => ⟨nsA h.1, h.2⟩⟩
  have e0 : Env0 P w K mg (hidT s.heap H) callerA [] s H :=
    ⟨rfl, md, fun b o e => of_hidT e, Nat.le_of_eq (hidT_size _ _), trivial, fun _ hb => absurd hb List.not_mem_nil, hok, .of_eq hg⟩
  have R := (F _ inB (nsA hns) (let ⟨_, q⟩ := hsy; let ⟨o, _, _, e, _⟩ := nsA q; ⟨o, e⟩)).run callerA [] s H ⟨[.ref a], []⟩ [.ref a] [.ref a] _ _ rfl hr e0 (hbind s (.ref a)) (.cons rfl .nil) hsp
  refine codeAny_mono R fun r s' h => ?_
  match r, h with
  | .error e, h => exact (hCX e s' h).elim
  | .ok .next, h => exact False.elim h
  | .ok .brk, h => exact False.elim h
  | .ok .cont, h => exact False.elim h
  | .ok (.ret u), ⟨v, H', os, bare, un, hok', r', q⟩ =>
    have q' : v = .bl true := q
    subst q'
    cases (show u = Value.bool true from r')
    refine ⟨rfl, OldK.of_keep fun b o e => ?_, os, bare⟩
    rcases hO b with z | ⟨ob, xs, z⟩
    · exact un.keep b o e z List.not_mem_nil (by simp)
    · have e1 := (hok b _ z).1
      have e2 := (hok' b _ (un.frzs b ob _ z)).1
      rw [e] at e1
      cases e1
      exact e2
theorem law_callG (KX : K.In s.heap) (hns : s.heap.Ns mainGlobals mg) (hb : s.heap.Ns builtinsNs mb) (hbb : ∀ x : Str, x ≠ "__name__" → mb x = bootBuiltins x) (hlim : s.heap.NoLimit) (hsy : ∃ mm, s.heap.Ns sysModules mm) (hg : s.gens = #[])
    (ha : s.heap.get? a = some (scriptObj vs)) (hi : IntsAre vs ns) (hl : ns.length ≤ sizeLine) (hr : Room k callerA)
    (F : ∀ base : Heap, K.In base → base.Ns mainGlobals mg → SysIn base → FnG P w K mg base CX k fa fd [x] sp) (hbind : ∀ (s : Shared) (u : Value), BindsTo s fd ⟨[u], []⟩ [(x, u)])
    (hsp : ∀ H : Hp, Only H → SqL K H a (ns.map V.int) → sp [.ref a] H (fun v _ => v = .bl true) fun _ _ _ => False) (hCX : ∀ H e s', CX [] H s (fun _ _ _ => False) e s' → False) :
    codeAny (model P w) callerA (.call (.ref fa) ⟨[.ref a], []⟩) (Done s) s := by
  have rv := vals_ints hi
  have lenV := hi.length
  cases hk : K.lookup a with
  | some o =>
    have e := KX a o hk
    rw [ha] at e
    cases e
    refine law_core KX hns hb hbb hlim hsy hg ha hr F hbind (fun _ => none) (fun _ => .inl rfl) (fun b u z => nomatch (z : (none : Option HO) = some u)) (fun _ z => absurd rfl z) (fun z => absurd rfl z) ?_ (hCX _)
    exact hsp _ (fun _ => .inl rfl) (.inr ⟨_, vs.toArray, _, hk, rfl, rfl, rfl, by rw [List.size_toArray, lenV]; exact hl, by simpa using rv⟩)
  | none =>
    have one : ∀ {b : Addr} {u : HO}, (if b = a then some (HO.frz (scriptObj vs) (.lst (ns.map V.int))) else none) = some u → b = a ∧ u = .frz (scriptObj vs) (.lst (ns.map V.int)) := by
      intro b u z
      by_cases hb : b = a
      · rw [if_pos hb] at z
        exact ⟨hb, (Option.some.inj z).symm⟩
      · rw [if_neg hb] at z
        exact nomatch z
    have only : Only fun b => if b = a then some (HO.frz (scriptObj vs) (.lst (ns.map V.int))) else none := fun b => by
      by_cases hb : b = a
      · exact .inr ⟨_, _, if_pos hb⟩
      · exact .inl (if_neg hb)
    refine law_core KX hns hb hbb hlim hsy hg ha hr F hbind _ only (fun b u z => ?_) (fun b z => ?_) (fun _ => hk) (hsp _ only (.inl (.inr ⟨scriptObj vs, if_pos rfl⟩))) (hCX _)
    · obtain ⟨rfl, rfl⟩ := one z
      exact ⟨ha, by rw [List.length_map]; exact hl, vs, _, rv, ha⟩
    · cases q : (if b = a then some (HO.frz (scriptObj vs) (.lst (ns.map V.int))) else none) with
      | none => exact absurd q z
      | some u => exact (one q).1
theorem walkG {l : PySem.W.OpenLaw} {n k : Nat} {q : Program} {loose : List Str} {XP : (Str → Option Value) → Heap → Prop} {YP : World → Heap → Prop} {d : DefRec} {K : Params → PySem.W.Frag} {CX : World → CXT} {sp : World → Sp} {x : Str}
    (hn : l.most = some n) (hn2 : n ≤ sizeLine) (hdf : d.params.defaults = []) (hr : Room k callerA) (himp : importsNone q = true) (hY : ∀ (w : World) (h : Heap), YP w h → (K w.params).In h)
    (F : ∀ (w : World) (mg : Str → Option Value) (fa : Addr) (h : Heap), (K w.params).In h → h.Ns mainGlobals mg → mg d.name = some (.ref fa) →
      ∃ fd : FuncData, (∀ (s : Shared) (u : Value), BindsTo s fd ⟨[u], []⟩ [(x, u)]) ∧
        ∀ base : Heap, (K w.params).In base → base.Ns mainGlobals mg → SysIn base → FnG l.prog w (K w.params) mg base (CX w) k fa fd [x] (sp w))
    (hsp : ∀ (w : World) (H : Hp) (a : Addr) (ns : List Int), ns.length ≤ n → Only H → SqL (K w.params) H a (ns.map V.int) → sp w [.ref a] H (fun v _ => v = .bl true) fun _ _ _ => False)
    (hCX : ∀ (w : World) (H : Hp) (s : Shared) (e : Value) (s' : Shared), CX w [] H s (fun _ _ _ => False) e s' → False) :
    PySem.W.WalkO q loose XP YP l.row.toRowW d [] (fun f vs => PySem.call f vs) := by
  refine Att.attach_call hn hdf fun w s₀ s₁ mg mb fa o pm cd doc a vs ns G Y ho hd hcd hmg hobj hints hlen hg => ?_
  obtain ⟨fd, hb, hF⟩ := F w mg fa _ (hY w _ Y) G.T.g hmg
  exact law_callG (hY w _ Y) G.T.g G.T.b G.T.builtins G.T.nolimit (let ⟨mm, q, _⟩ := (G.T.seer himp).mods; ⟨mm, q⟩) hg hobj hints (Nat.le_trans hlen hn2) hr hF hb (fun H hO hS => hsp w H a ns hlen hO hS) fun H e s' => hCX w H s₁ e s'
end
end Gd

namespace PySem
namespace EzValue
open PySem.W PySem.Calls PyProof.Rows PySem.HandSPX
/-! ### the text of __init__ -/
def iA (p1 p2 : Pos) : Arguments := { posonlyargs := [], args := [{ arg := "self", annotation := none, pos := p1 }, { arg := "value", annotation := none, pos := p2 }], vararg := none, kwonlyargs := [], kw_defaults := [], kwarg := none, defaults := [] }
def iB (q1 q2 q3 q4 : Pos) : List Stmt := [.Assign [.Attribute (.Name "self" q1) "value" q2] (.Name "value" q3) q4]
def iS : Scope := { kind := .function, names := [(PySem.Str.ofString "self", .local), (PySem.Str.ofString "value", .local)], isGenerator := false, isCoroutine := false, more := [] }
/-- what the written part says of Low, at C, and of its __init__, at fI -/
structure LowTxt (K : Frag) (mg : Str → Option Value) (nm : Str) (qn : String) (C fI : Addr) : Prop where
  gC : mg nm = some (.ref C)
  cls : ∃ nmC q N bs bm sn sub ab col dd k0 k1 k2 k3 k5, K.lookup C = some (excClassObj nmC q C N bs bm true sn sub ab col dd k0 k1 k2 k3 k5 "ValueError.__new__") ∧ refsVE bm = true
  sa : findIn K (.ref C) "__setattr__" = some (some (.builtin "object.__setattr__"))
  ga : findIn K (.ref C) "__getattribute__" = some (some (.builtin "BaseException.__getattribute__"))
  gg : findIn K (.ref C) "__getattr__" = some none
  noN : findIn K (.ref C) "value" = some none
  iC : findIn K (.ref C) "__init__" = some (some (.ref fI))
  tC : typeIn K (.ref fI) = some (.type "function")
  kC : keepIn K (.ref C) = true
  exC : subIn K (.ref C) (.type "BaseException") = some true
  tyC : typeIn K (.ref C) = some (.type "type")
  hdC : hasDictIn K C = true
  te : exmOne K (.ref C) (.ref C) = some true
  fn : ∃ (oc : Value) (od : Option Addr) (doc pm : Value) (an : Option Addr) (cdv ct : Value) (osl : Array (Option Value)) (p1 p2 q1 q2 q3 q4 : Pos),
    K.lookup fI = some ⟨oc, od, .func (fnOf "__init__" qn (iA p1 p2) (iB q1 q2 q3 q4) iS .none .none doc pm an cdv ct), osl⟩ ∧ codeIn K cdv qn = true
theorem one_size (v : Value) : [v].length ≤ sizeLine := by
  rw [sizeLine_eq]
  exact (by decide : 1 ≤ 16777216)
theorem kept_but {K : Frag} {h h' : Heap} {x : Addr} (X : K.In h) (hx : K.lookup x = none) (k : ∀ b o, b ≠ x → h.get? b = some o → h'.get? b = some o) : K.In h' := fun a o e =>
  k a o (fun z => by rw [z, hx] at e; cases e) (X a o e)
theorem ldC {M : Model} {s : Shared} {name : Str} {scope : Scope} {L a : Addr} {cd : Value} {m : Str → Option Value} {x : Str} {pos : Pos} {v : Value} {Q : Value → Shared → Prop} {A : Around} {E : Value → Shared → Prop} (hn : s.heap.Ns L m) (hv : m x = some v) (h : Q v s)
    (hk : scope.kind = .function := by rfl) (hl : (envOfC name scope L a cd).kindOf x = some .local := by rfl) (hd : (x == ("__debug__" : Str)) = false := by decide) :
    wpAny M A (eval (.Name x pos) (envOfC name scope L a cd)) Q E s := wpAny_Name (wpAny_loadName_local hk hl hn hv h) hd
/-- what __init__ leaves of a fresh exception at x -/
structure InitEnd (h h' : Heap) (x C dx t1 : Addr) (v : Value) : Prop where
  keep : ∀ b o, b ≠ x → h.get? b = some o → h'.get? b = some o
  obj : h'.get? x = some { cls := .ref C, dict := some dx, data := .fields #[.ref t1, .none, .none, .none, .bool false, .none] }
  dbig : h.objs.size ≤ dx
  dne : dx ≠ x
  ns : h'.Ns1 dx (fun y => if y = "value" then some v else none)
/-- a made Low -/
structure OwnMade (h h' : Heap) (e C d : Addr) (v : Value) : Prop where
  keep : ∀ b o, h.get? b = some o → h'.get? b = some o
  new : h.objs.size ≤ e
  obj : ∃ oe vs, h'.get? e = some oe ∧ oe.cls = .ref C ∧ oe.dict = some d ∧ oe.data = .fields vs ∧ vs[1]? = some .none
  dbig : h.objs.size ≤ d
  dne : d ≠ e
  ns : h'.Ns1 d (fun y => if y = "value" then some v else none)
section
variable {prog : Program} {w : World} {A : Around} {E : Value → Shared → Prop} {R : Result → Shared → Prop} {s : Shared} {K : Frag} {mg : Str → Option Value} {nm : Str} {qn : String} {C fI : Addr}
theorem low_init (T : LowTxt K mg nm qn C fI) {x t0 : Addr} {v : Value} (X : K.In s.heap) (hlim : s.heap.NoLimit) (hx : s.heap.get? x = some (excO C t0)) (hnx : K.lookup x = none) (hroom : A.depth < recursionLimit)
    (hq : ∀ h' tk dx, InitEnd s.heap h' x C dx t0 v → R (.ok (.ret .none)) { s with heap := h', toks := tk }) :
    codeAny (model prog w) A (.call (.ref fI) ⟨[.ref x, v], []⟩) R s := by
  obtain ⟨oc, od, doc, pm, an, cdv, ct, osl, p1, p2, q1, q2, q3, q4, ho, hcd⟩ := T.fn
  obtain ⟨nmC, q, N, bs, bm, sn, sub, ab, col, dd, k0, k1, k2, k3, k5, hC, hbm⟩ := T.cls
  have hcl : clsIn K C = some { name := nmC, bases := bs, mro := .ref C :: bm, ns := N, qualname := q, hasDict := true, slotNames := sn, subclasses := sub, abstract := ab, collection := col, hasDel := false } := by unfold clsIn; rw [hC] <;> rfl
  refine Att.call_fn (binds := [("self", .ref x), ("value", v)]) X hlim ho hcd hroom (BindsTo.of_eq (by first | rfl | with_unfolding_all rfl)) (by first | rfl | decide | with_unfolding_all rfl) (fun s₁ IC => ?_) rfl rfl rfl
  obtain ⟨h₁, tk₁, rfl⟩ := IC.toInCall.same
  have k : ∀ b o, s.heap.get? b = some o → h₁.get? b = some o := IC.toInCall.keep
  have hn := IC.toInCall.ns
  have hxL : s.heap.objs.size ≠ x := Nat.ne_of_gt (Heap.lt_size hx)
  have X₁ : K.In h₁ := X.keeps k
  have hx₁ := k _ _ hx
  -- self.by = by
  show wpAny _ _ (execs _ _) _ _ _
  refine wpAny_execs_cons (plainObj_wpAny_Assign_Attribute ?_)
  refine ldC (v := v) hn (by first | rfl | with_unfolding_all rfl | kernel_rfl) (ldC (v := .ref x) hn (by first | rfl | with_unfolding_all rfl | kernel_rfl) ?_)
  refine set_plain X₁ (ox := excO C t0) (od := none) ⟨hx₁, rfl, rfl, trivial⟩ T.sa ?_
  refine exc_osa X₁ hx₁ hcl (show refsVE (.ref C :: bm) = true from hbm) rfl T.noN (fun h₃ tk₃ dx k₃ dn dne hx₃ hn₃ => ?_)
  show wpAny _ _ (execs _ _) _ _ _
  have z : s.heap.objs.size < h₁.objs.size := hn.lt
  exact wpAny_execs_nil (hq h₃ tk₃ dx ⟨fun b o hb e => k₃ b o hb (k b o e), hx₃, Nat.le_of_lt (Nat.lt_of_lt_of_le z dn), dne, hn₃⟩)
theorem low_made (T : LowTxt K mg nm qn C fI) {v : Value} (X : K.In s.heap) (hlim : s.heap.NoLimit) (hroom : A.depth + 1 < recursionLimit)
    (hq : ∀ h' tk e d, OwnMade s.heap h' e C d v → R (.ok (.ret (.ref e))) { s with heap := h', toks := tk }) :
    codeAny (model prog w) A (.call (.ref C) ⟨[v], []⟩) R s := by
  obtain ⟨nmC, q, N, bs, bm, sn, sub, ab, col, dd, k0, k1, k2, k3, k5, hC, hbm⟩ := T.cls
  obtain ⟨hp, g, dr, tk, os⟩ := s
  have k : ∀ b o, hp.get? b = some o → ((hp.push (kdv_tup [v])).push (excO C hp.objs.size)).get? b = some o := fun b o e => Heap.get?_push_of_some _ (Heap.get?_push_of_some _ e)
  have hget : ((hp.push (kdv_tup [v])).push (excO C hp.objs.size)).get? (hp.objs.size + 1) = some (excO C hp.objs.size) := by heap_get
  have hnx : K.lookup (hp.objs.size + 1) = none := by
    cases e : K.lookup (hp.objs.size + 1) with
    | none => rfl
    | some o =>
      have z : hp.get? (hp.objs.size + 1) = some o := X _ _ e
      exact absurd (Nat.lt_of_succ_lt (Heap.lt_size z)) (Nat.lt_irrefl _)
  refine call_own F.excBase_ValueError (fun X => refsVE_contains X bm hbm) (X _ _ hC) (looks_findIn X T.iC) (fun self => bind_fn X self T.tC) (one_size v) ?_
  refine low_init (s := ⟨(hp.push (kdv_tup [v])).push (excO C hp.objs.size), g, dr, tk, os⟩) T (X.keeps k) (hlim.keeps k) hget hnx ?_ fun h' tk' dx ⟨k', hx, dn, dne, hns⟩ => ?_
  · show A.depth + 1 < recursionLimit
    exact hroom
  · have old : ∀ b o, hp.get? b = some o → h'.get? b = some o := fun b o e => k' b o (Nat.ne_of_lt (Nat.lt_succ_of_lt (Heap.lt_size e))) (k b o e)
    have z : hp.objs.size + 1 + 1 ≤ dx := by
      first
        | (simpa only [Heap.size_push] using dn)
        | exact dn
        | (have q := dn; rw [Heap.size_push, Heap.size_push] at q; exact q)
    exact ⟨rfl, hq h' tk' (hp.objs.size + 1) dx ⟨old, Nat.le_succ _, ⟨_, _, hx, rfl, rfl, rfl, rfl⟩, Nat.le_trans (Nat.le_trans (Nat.le_succ _) (Nat.le_succ _)) z, dne, hns⟩⟩
end
end EzValue
end PySem
namespace L2
open PySem PySem.Spec PyProof.Rows
theorem relO_value {v : V} {v' : Value} (r : RelV v v') (f : Str) : RelO (List.lookup f [(("value" : Str), v)]) (if f = "value" then some v' else none) := by
  by_cases hw : f = "value"
  · subst hw
    rw [if_pos rfl]
    have q : List.lookup ("value" : Str) [(("value" : Str), v)] = some v := by simp [List.lookup]
    rw [q]
    exact r
  · rw [if_neg hw]
    have qw : (f == ("value" : Str)) = false := by simpa using hw
    have q2 : List.lookup f [(("value" : Str), v)] = none := by simp [List.lookup, qw]
    rw [q2]
    trivial
section
variable {X : Cx} {nm : Str} {qn : String} {C fI : Addr}
/-- Low(e) -/
def tMk_value (C : Addr) (ta : TA) : L2.St → Hp → XK → Prop := fun σ H Q => ta σ H fun vs H1 => ∃ v, vs = [v] ∧ ∀ d, H1 d = none → Q (.ref C) (some d) (upd H1 d (.xd [(("value" : Str), v)]))
theorem pmk_value {a : Expr} {ta : TA} {p pos : Pos} {k : Nat} (T : PySem.EzValue.LowTxt X.K X.mg nm qn C fI) (hr : Room k X.A) (ha : PA X [a] ta) (hg : Gl X nm := by rfl) (hdb : (nm == ("__debug__" : Str)) = false := by decide)
    (he : starEach (a :: []) X.env = (false, eval a X.env) :: starEach [] X.env := by rfl) (hpl : (backTo pos (starEach [] X.env)).any (·.1) = false := by rfl) :
    PMk X (.Call (.Name nm p) [a] [] pos) (tMk_value C ta) := by
  intro pins s σ H Q I h
  refine wpAny_Call_Name_kw (ld_glob I hg T.gC ?_ hdb)
  refine PySem.W.callWith_K (h₀ := X.base) I.ok.mod.kin T.kC (thn (ha.run pos pins s σ H _ I h) fun us s1 hh => ?_) he hpl
  obtain ⟨vs, H1, I1, r1, v, ev, q1⟩ := hh
  subst ev
  refine ⟨I1.kIn, ?_⟩
  cases r1 with
  | cons rv rn =>
    rename_i v' us'
    cases rn
    show wpAny _ _ (call (.ref C) [v']) _ _ _
    have hlim := I1.nolimit
    obtain ⟨hp, g, dr, tk, os⟩ := s1
    refine wpAny_call (PySem.EzValue.low_made T I1.kIn hlim (by have := hr.dp; omega) fun h' tk' e d M => ?_)
    show MkP X pins σ Q (.ref e) ⟨h', g, dr, tk', os⟩
    obtain ⟨oe, fv, hoe, hc, hd, hdat, h1⟩ := M.obj
    have hns := M.ns
    obtain ⟨G', g1, g2⟩ := restrict h' fun b => decide (b ≠ e)
    have gk : ∀ b, b ≠ e → G'.get? b = h'.get? b := fun b hb => g1 b (decide_eq_true hb)
    have ge : G'.get? e = none := g2 e (by simp)
    have old : ∀ b o, hp.get? b = some o → G'.get? b = some o := fun b o q => (gk b (Nat.ne_of_lt (Nat.lt_of_lt_of_le (Heap.lt_size q) M.new))).trans (M.keep b o q)
    have ob : ObjOk X.prog X.w (upd H1 d (.xd [(("value" : Str), v)])) G' d (.xd [(("value" : Str), v)]) :=
      ⟨_, hns.at (fun o q => (gk d M.dne).trans q), fun f => relO_value rv f⟩
    have J : Inv X pins σ (upd H1 d (.xd [(("value" : Str), v)])) ⟨G', g, dr, tk', os⟩ := I1.laid (t' := tk') old M.dbig ob
    refine ⟨e, oe, fv, ⟨G', g, dr, tk', os⟩, _, .ref C, some d, rfl, J, fun b o q => ?_, ge, hoe, ⟨hc, hd⟩, hdat, h1, ?_, rfl, I1.bare, raises_own T.exC T.tyC, q1 d (I1.hok.fresh M.dbig)⟩
    · by_cases hb : b = e
      · have q' : G'.get? b = some o := q
        rw [hb, ge] at q'; cases q'
      · exact (gk b hb).symm.trans q
    · rw [upd_ne (Ne.symm M.dne)]
      exact I1.hok.fresh M.new
/-- raise Low(e) -/
def tRaise_value (C : Addr) (W : WX) (ta : TA) : TS := fun _ σ H => tMk_value C ta σ H fun cls d H' => W cls d σ H'
theorem ps_raise_value {a : Expr} {ta : TA} {W : WX} {p pos pos2 : Pos} {k : Nat} (hc : X.calm = true) (T : PySem.EzValue.LowTxt X.K X.mg nm qn C fI) (hr : Room k X.A) (tk : Takes X W) (ha : PA X [a] ta) (hg : Gl X nm := by rfl) (hdb : (nm == ("__debug__" : Str)) = false := by decide)
    (he : starEach (a :: []) X.env = (false, eval a X.env) :: starEach [] X.env := by rfl) (hpl : (backTo pos (starEach [] X.env)).any (·.1) = false := by rfl) :
    PS X (.Raise (some (.Call (.Name nm p) [a] [] pos)) none pos2) (tRaise_value C W ta) := ps_raise hc tk (pmk_value T hr ha hg hdb he hpl)
/-- low.by, low the exception that the suite holds (at a; its class cls, its dict d) -/
def tBy_value (C : Addr) (a : Addr) (cls : Value) (d : Option Addr) (te : TE) : TE := fun σ H Q => te σ H fun x H1 => x = .ref a ∧ cls = .ref C ∧ ∃ (dd : Addr) (v : V), d = some dd ∧ H1 dd = some (.xd [(("value" : Str), v)]) ∧ Q v H1
theorem pe_by_value {a : Addr} {oe : Obj} {cls : Value} {d : Option Addr} {pn : List (Addr × Obj)} {e : Expr} {te : TE} {pos : Pos} (T : PySem.EzValue.LowTxt X.K X.mg nm qn C fI) (hz : Zc cls d oe) (hf : ∃ vs, oe.data = .fields vs) (he : PE (X.suite a ((a, oe) :: pn)) e te)
    (hb : attributeBase e "value" X.env (eval e X.env) = eval e X.env := by rfl) :
    PE (X.suite a ((a, oe) :: pn)) (.Attribute e "value" pos) (tBy_value C a cls d te) := by
  refine ⟨fun pins s σ H Q I h => ?_⟩
  refine attr_of hb (thn (he.run pins s σ H _ I h) fun u s1 hh => ?_)
  obtain ⟨x, H1, I1, rx, ex, ec, dd, v, ed, ea, q⟩ := hh
  subst ex
  obtain rfl : u = Value.ref a := rx
  subst ec
  subst ed
  obtain ⟨ha, _⟩ := I1.pin (a, oe) (List.mem_append_left _ List.mem_cons_self)
  obtain ⟨vs, hd⟩ := hf
  have hx : ObjOk X.prog X.w H1 s1.heap dd (.xd [(("value" : Str), v)]) := I1.hok dd _ ea
  obtain ⟨mA, hns, hr⟩ := hx
  obtain ⟨od, ho, hl⟩ := lookIn_ns hns
  have l : List.lookup ("value" : Str) [(("value" : Str), v)] = some v := by simp [List.lookup]
  obtain ⟨u, hu, ru⟩ := RelO.some_of (v := v) (o := mA "value") (by rw [← l]; exact hr "value")
  have J : PySem.W.InstAt s1.heap a oe C (some od) := ⟨ha, hz.1, by unfold PySem.W.notCls; rw [hd] <;> rfl, by rw [hz.2]; exact ho⟩
  exact HandSPX.exc_get I1.kIn J T.ga T.gg T.exC (PySem.W.findObj_own T.hdC T.noN rfl (by rw [hl, hu])) (handed_of ru) ⟨v, H1, I1.tok _, ru, q⟩
end
end L2


namespace Gd
open PySem PySem.Spec PyProof.Rows L2
/-- an except clause: its class, the slot of its name, what its suite reads -/
structure Cl where
  c : Value
  i : Option Nat
  ts : Addr → Value → Option Addr → TS
/-- behind the suite of a clause with a name the name is gone -/
def gone (D : Ends) (i : Nat) : Ends :=
  { nx := fun σ H => D.nx (σ.set i none) H, rt := D.rt, bk := fun σ H => D.bk (σ.set i none) H, ct := fun σ H => D.ct (σ.set i none) H }
/-- what the suite of a clause is asked -/
def atCl (q : Cl) (D : Ends) (a : Addr) (cls : Value) (d : Option Addr) (σ : L2.St) (H : Hp) : Prop :=
  match q.i with
  | some i => q.ts a cls d (gone D i) (σ.set i (some (.ref a))) H
  | none => q.ts a cls d D σ H
/-- what the clauses wish of an exception; where none of the told ones takes it, that can't be -/
def wCl (K : PySem.W.Frag) (D : Ends) : List Cl → WX
  | [] => fun _ _ _ _ => False
  | q :: r => fun cls d σ H => ∃ b, PySem.W.exmOne K cls q.c = some b ∧ (b = true → ∀ a, H a = none → atCl q D a cls d σ H) ∧ (b = false → wCl K D r cls d σ H)
inductive HdG (X : Cx) : List ExceptHandler → List Cl → Prop
  | stop (hds : List ExceptHandler) : HdG X hds []
  | as {x n : Str} {i : Nat} {c : Value} {ts : Addr → Value → Option Addr → TS} {b₀ : Stmt} {suite : List Stmt} {np ps : Pos} {hds : List ExceptHandler} {l : List Cl} (hi : X.N[i]? = some n) (hl : X.env.kindOf n = some .local) (hc : Names X x c)
      (hsu : ∀ (a : Addr) (oe : Obj) (cls : Value) (d : Option Addr) (pn : List (Addr × Obj)), Zc cls d oe → (∃ vs, oe.data = .fields vs) → PSs (X.suite a ((a, oe) :: pn)) (b₀ :: suite) (ts a cls d)) (r : HdG X hds l) :
      HdG X (.ExceptHandler (some (.Name x np)) (some n) (b₀ :: suite) ps :: hds) (⟨c, some i, ts⟩ :: l)
  | bare {x : Str} {c : Value} {ts : Addr → Value → Option Addr → TS} {b₀ : Stmt} {suite : List Stmt} {np ps : Pos} {hds : List ExceptHandler} {l : List Cl} (hc : Names X x c)
      (hsu : ∀ (a : Addr) (oe : Obj) (cls : Value) (d : Option Addr) (pn : List (Addr × Obj)), Zc cls d oe → (∃ vs, oe.data = .fields vs) → PSs (X.suite a ((a, oe) :: pn)) (b₀ :: suite) (ts a cls d)) (r : HdG X hds l) :
      HdG X (.ExceptHandler (some (.Name x np)) none (b₀ :: suite) ps :: hds) (⟨c, none, ts⟩ :: l)
section
variable {X : Cx} {body : List Stmt} {h₀ : ExceptHandler} {hds : List ExceptHandler} {l : List Cl} {pos : Pos} {tb : WX → TS}
theorem ps_tryG (hs : X.stack = X.env :: X.outer) (hf : X.env.frame = some X.env.locals) (hN : X.N.Nodup)
    (hb : ∀ (W : WX) (pn : List (Addr × Obj)) (xe : Value → Shared → Prop), Takes (X.tr pn xe) W → PassesOwn (model X.prog X.w) X.A X.env xe → PSs (X.tr pn xe) body (tb W))
    (hh : HdG X (h₀ :: hds) l) : PS X (.Try body (h₀ :: hds) [] [] pos) (fun D σ H => tb (wCl X.K D l) D σ H) := by
  refine ⟨fun pins s σ H D I h => ?_⟩
  have ok := I.ok
  have hfr : X.A.frames = some (X.env :: X.outer) := ok.frames.trans (congrArg some hs)
  refine wpAny_Try_except (wpAny_mono ((hb (wCl X.K D l) (X.pn ++ pins) _ ?caught PassesOwn.looking).run [] s σ H D (I.toTry _) h) ?norm fun _ _ z => z)
  case norm =>
    intro f s1 hsp
    match f, hsp with
    | .next, ⟨σ', H', J, q⟩ => exact wpAny_execs_nil ⟨σ', H', J.ofTry ok, q⟩
    | .brk, ⟨σ', H', J, q⟩ => exact ⟨σ', H', J.ofTry ok, q⟩
    | .cont, ⟨σ', H', J, q⟩ => exact ⟨σ', H', J.ofTry ok, q⟩
    | .ret u, ⟨v, σ', H', J, r, q⟩ => exact ⟨v, σ', H', J.ofTry ok, r, q⟩
  case caught =>
    intro u s' xx
    obtain ⟨a, B, sI, pins', σ', H', cls, d, rfl, J', nb, up, sky, na, os, ag, w⟩ := xx
    have J : Inv X pins σ' H' sI := J'.ofTry ok
    rw [show (X.tr (X.pn ++ pins) _).stack = X.env :: X.outer from hs] at sky
    show wpAny _ X.A (noteFrame (.ref a) X.env) _ _ _
    refine Sky.land Zc.steady hfr hf sky fun h3 fl3 up3 => ?_
    have J3 : Inv X pins σ' H' { s' with heap := h3 } := J.landed nb fl3.1 (up.trans up3) os ag
    obtain ⟨oe3, vs3, he3, hz3, hd3⟩ := fl3.there
    have nfr : a ∉ frs (X.env :: X.outer) := fun hm => by
      obtain ⟨_, o, e, hn⟩ := fl3.2.2.1.mem hm
      rw [he3] at e
      cases e
      exact hn _ hd3
    have nL : a ≠ X.env.locals := fun z => nfr (List.mem_filterMap.mpr ⟨X.env, List.mem_cons_self, by rw [hf, z]⟩)
    have nF : a ∉ X.fs := fun hm => nfr (let ⟨e, he, q⟩ := List.mem_filterMap.mp hm; List.mem_filterMap.mpr ⟨e, List.mem_cons_of_mem _ he, q⟩)
    have S3 := J3.suite he3 hd3 na nL nF
    have LT : PySem.W.Looks (model X.prog X.w) h3 (typeOf (.ref a)) cls := fun A Q E s k q => wpAny_typeOf_ref (k _ _ he3) (by rw [hz3.1]; exact q)
    have test : ∀ {x : Str} {c : Value} {np : Pos} {Q E : Value → Shared → Prop}, Names X x c → Q c { s' with heap := h3 } → wpAny (model X.prog X.w) (X.A.mark (some (.ref a))) (eval (.Name x np) X.env) Q E { s' with heap := h3 } := by
      rintro x c np Q E ⟨hg, hdb, hm | ⟨hm, hv, hn⟩⟩ q
      · exact ld_glob (X := X.suite a ((a, oe3) :: (X.pn ++ pins))) S3 hg hm q hdb
      · exact ld_blt (X := X.suite a ((a, oe3) :: (X.pn ++ pins))) S3 hg hm hv q hn hdb
    suffices go : ∀ {hs : List ExceptHandler} {cl : List Cl}, HdG X hs cl → wCl X.K D cl cls d σ' H' → wpAny (model X.prog X.w) X.A (handleBy (.ref a) X.env hs) (SP X pins D) X.xe { s' with heap := h3 } from go hh w
    intro hs' cl k
    induction k with
    | stop => exact fun w => w.elim
    | @as x n i c ts b₀ suite np ps hds l hi hl hc hsu r ih =>
      rintro ⟨b, hb1, yes, no⟩
      have hb2 := PySem.W.exm_one (M := model X.prog X.w) J3.kIn LT hb1
      refine wpAny_handleBy_cons (codeAny_handlers_test (test hc (hb2.here ?_))) (fun q => nomatch q)
      cases b with
      | false => exact ih (no rfl)
      | true =>
        refine codeAny_handlers_suite_as (HandSPX.lands_againZ fl3 fun h4 fl4 up4 => ?_)
        have J4 : Inv X pins σ' H' { s' with heap := h4 } := J.landed nb fl4.1 ((up.trans up3).trans up4) os ag
        obtain ⟨oe4, vs4, he4, hz4, hd4⟩ := fl4.there
        refine store_ok (X := X.suite a ((a, oe4) :: (X.pn ++ pins))) (v := .ref a) (J4.suite he4 hd4 na nL nF) hN hi (.inl hl) rfl (fun s5 S5 => ?_) (.inr hl)
        refine wpAny_mono ((hsu a oe4 cls d (X.pn ++ pins) hz4 ⟨_, hd4⟩).run [] s5 _ H' (gone D i) S5 (yes rfl a na)) (fun f s6 hsp => ?_) fun _ _ z => z.elim
        have fin : ∀ {σ6 : L2.St} {H6 : Hp} {Q : Shared → Prop}, Inv (X.suite a ((a, oe4) :: (X.pn ++ pins))) [] σ6 H6 s6 → (∀ s7, Inv X pins (σ6.set i none) H6 s7 → Q s7) →
          wpAny (model X.prog X.w) X.A (do bindName X.env n .none; unbindBehindTheSuite X.env n ps) (fun _ s7 => Q s7) X.xe s6 := fun S6 hq => gone_ok (S6.unsuite ok) hN hi hl hq
        match f, hsp with
        | .next, ⟨σ6, H6, S6, q6⟩ => exact fin S6 fun s7 J7 => ⟨_, _, J7, q6⟩
        | .brk, ⟨σ6, H6, S6, q6⟩ => exact fin S6 fun s7 J7 => ⟨_, _, J7, q6⟩
        | .cont, ⟨σ6, H6, S6, q6⟩ => exact fin S6 fun s7 J7 => ⟨_, _, J7, q6⟩
        | .ret u, ⟨v6, σ6, H6, S6, r6, q6⟩ => exact fin S6 fun s7 J7 => ⟨_, _, _, J7, r6, q6⟩
    | @bare x c ts b₀ suite np ps hds l hc hsu r ih =>
      rintro ⟨b, hb1, yes, no⟩
      have hb2 := PySem.W.exm_one (M := model X.prog X.w) J3.kIn LT hb1
      refine wpAny_handleBy_cons (codeAny_handlers_test (test hc (hb2.here ?_))) (fun q => nomatch q)
      cases b with
      | false => exact ih (no rfl)
      | true =>
        refine codeAny_handlers_suite (HandSPX.lands_againZ fl3 fun h4 fl4 up4 => ?_)
        have J4 : Inv X pins σ' H' { s' with heap := h4 } := J.landed nb fl4.1 ((up.trans up3).trans up4) os ag
        obtain ⟨oe4, vs4, he4, hz4, hd4⟩ := fl4.there
        refine wpAny_mono ((hsu a oe4 cls d (X.pn ++ pins) hz4 ⟨_, hd4⟩).run [] _ _ H' D (J4.suite he4 hd4 na nL nF) (yes rfl a na)) (fun f s6 hsp => ?_) fun _ _ z => z.elim
        match f, hsp with
        | .next, ⟨σ6, H6, S6, q6⟩ => exact ⟨_, _, S6.unsuite ok, q6⟩
        | .brk, ⟨σ6, H6, S6, q6⟩ => exact ⟨_, _, S6.unsuite ok, q6⟩
        | .cont, ⟨σ6, H6, S6, q6⟩ => exact ⟨_, _, S6.unsuite ok, q6⟩
        | .ret u, ⟨v6, σ6, H6, S6, r6, q6⟩ => exact ⟨_, _, _, S6.unsuite ok, r6, q6⟩
end
end Gd

namespace Gd
open PySem PySem.Spec PyProof.Rows L2
/-- a call of a def: the written arguments, then the defaults; what may be let out, at the slots -/
def tCallG (sp : Sp) (dvs : List V) (E : L2.St → XK) (t : TA) : TE := fun σ H Q => t σ H fun vs H1 => sp (vs ++ dvs) H1 Q (E σ)
/-- .. with keywords -/
def tCallH (n m : Nat) (sp : Sp) (gV : List V → List V → List V) (E : L2.St → XK) (t tk : TA) : TE := fun σ H Q => t σ H fun vs H1 => tk σ H1 fun zs H2 => vs.length = n ∧ zs.length = m ∧ sp (gV vs zs) H2 Q (E σ)
section
variable {X : Cx} {CX : CXT} {k n : Nat} {f : Addr} {fd : FuncData} {ps ks : List Str} {sp : Sp} {dvs : List V} {ds : List Value} {E : L2.St → XK} {x : Str} {p pos : Pos} {e : Expr} {es : List Expr} {t tk : TA} {kws : List Keyword}
  {g : List Value → List Value → List Value} {gV : List V → List V → List V}
theorem passN {σ : L2.St} : PassesAt CX0 X σ E0 := fun _ _ _ _ _ _ h => h.elim
theorem passM {σ : L2.St} : PassesAt (L2.CX X.prog X.w) X σ E0 := fun _ _ _ _ _ _ h => by
  obtain ⟨_, _, _, _, _, _, _, _, _, _, _, _, z⟩ := h
  exact z.elim
theorem endC {pins : List (Addr × Obj)} {σ : L2.St} {H : Hp} {s s' : Shared} {Q : VK} {E1 : XK} {r : Result} (hx : PassesAt CX X σ E1) (I : Inv X pins σ H s) (hq : CR CX X.stack X.prog X.w H s Q E1 r s') :
    match (motive := Result → Prop) r with
    | .ok (.ret v) => EP X pins σ Q v s'
    | .ok _ => False
    | .error e => X.xe e s' := by
  match r, hq with
  | .error e, hq => exact hx pins H s e s' I hq
  | .ok (.ret u), hq => exact I.after hq
  | .ok .next, hq => exact False.elim hq
  | .ok .brk, hq => exact False.elim hq
  | .ok .cont, hq => exact False.elim hq
theorem runC {pins : List (Addr × Obj)} {σ : L2.St} {H : Hp} {s : Shared} {Q : VK} {us : List Value} {vs : List V} (F : FnG X.prog X.w X.K X.mg X.base CX k f fd ps sp) (hc : Clean X.A) (hr : Room k X.A)
    (hb : Binds X.K fd ps ds) (hd : Vals dvs ds) (hx : PassesAt CX X σ (E σ)) (I : Inv X pins σ H s) (r : Vals vs us) (h : sp (vs ++ dvs) H Q (E σ)) :
    wpAny (model X.prog X.w) X.A (call (.ref f) us) (EP X pins σ Q) X.xe s := by
  have r2 := r.append hd
  have hl : (us ++ ds).length = ps.length := r2.length ▸ F.len _ _ _ _ h
  refine wpAny_call (codeAny_mono (F.run X.A X.stack s H ⟨us, []⟩ (us ++ ds) (vs ++ dvs) Q (E σ) hc hr I.env0 (hb s us I.kIn hl) r2 h) ?_)
  intro r s' hq
  have z := endC hx I hq
  match r, z with
  | .error e, z => exact z
  | .ok (.ret u), z => exact z
  | .ok .next, z => exact False.elim z
  | .ok .brk, z => exact False.elim z
  | .ok .cont, z => exact False.elim z
theorem runH {pins : List (Addr × Obj)} {σ : L2.St} {H : Hp} {s : Shared} {Q : VK} {us ws : List Value} {vs zs : List V} (F : FnG X.prog X.w X.K X.mg X.base CX k f fd ps sp) (hc : Clean X.A) (hr : Room k X.A)
    (hb : KBn X.K fd ps n ks g gV) (hx : PassesAt CX X σ (E σ)) (I : Inv X pins σ H s) (r : Vals vs us) (rz : Vals zs ws) (l1 : vs.length = n) (l2 : zs.length = ks.length) (h : sp (gV vs zs) H Q (E σ)) :
    wpAny (model X.prog X.w) X.A (call (.ref f) us (ks.zip ws)) (EP X pins σ Q) X.xe s := by
  refine wpAny_call (codeAny_mono (F.run X.A X.stack s H ⟨us, ks.zip ws⟩ (g us ws) (gV vs zs) Q (E σ) hc hr I.env0 (hb.to s us ws I.kIn (r.length.symm.trans l1) (rz.length.symm.trans l2)) (hb.rel r rz) h) ?_)
  intro r s' hq
  have z := endC hx I hq
  match r, z with
  | .error e, z => exact z
  | .ok (.ret u), z => exact z
  | .ok .next, z => exact False.elim z
  | .ok .brk, z => exact False.elim z
  | .ok .cont, z => exact False.elim z
/-- f(e, ..) -/
theorem pe_c (F : FnG X.prog X.w X.K X.mg X.base CX k f fd ps sp) (hc : Clean X.A) (hr : Room k X.A) (hg : Gl X x) (hm : X.mg x = some (.ref f)) (hk : PySem.W.keepIn X.K (.ref f) = true)
    (hb : Binds X.K fd ps ds) (hd : Vals dvs ds) (hx : ∀ σ, PassesAt CX X σ (E σ)) (ha : PA X (e :: es) t) (hdb : (x == ("__debug__" : Str)) = false := by decide)
    (he : starEach (e :: es) X.env = (false, eval e X.env) :: starEach es X.env := by rfl) (hpl : (backTo pos (starEach es X.env)).any (·.1) = false := by rfl) :
    PE X (.Call (.Name x p) (e :: es) [] pos) (tCallG sp dvs E t) := by
  refine ⟨fun pins s σ H Q I h => wpAny_Call_Name_kw (ld_glob I hg hm ?_ hdb)⟩
  exact PySem.W.callWith_K (h₀ := X.base) I.ok.mod.kin hk (thn (ha.run pos pins s σ H _ I h) fun us s1 ⟨vs, H1, I1, r, q⟩ => ⟨I1.kIn, runC F hc hr hb hd (hx σ) I1 r q⟩) he hpl
/-- f() -/
theorem pe_c0 (F : FnG X.prog X.w X.K X.mg X.base CX k f fd ps sp) (hc : Clean X.A) (hr : Room k X.A) (hg : Gl X x) (hm : X.mg x = some (.ref f)) (hk : PySem.W.keepIn X.K (.ref f) = true)
    (hb : Binds X.K fd ps ds) (hd : Vals dvs ds) (hx : ∀ σ, PassesAt CX X σ (E σ)) (hdb : (x == ("__debug__" : Str)) = false := by decide) :
    PE X (.Call (.Name x p) [] [] pos) (tCallG sp dvs E tNil) := by
  refine ⟨fun pins s σ H Q I h => wpAny_Call_Name_kw (ld_glob I hg hm ?_ hdb)⟩
  exact PySem.W.callWith_K0 I.kIn hk (runC (us := []) F hc hr hb hd (hx σ) I .nil h)
/-- f(e, .., k = v, ..) -/
theorem pe_h (F : FnG X.prog X.w X.K X.mg X.base CX k f fd ps sp) (hc : Clean X.A) (hr : Room k X.A) (hg : Gl X x) (hm : X.mg x = some (.ref f)) (hk : PySem.W.keepIn X.K (.ref f) = true)
    (hb : KBn X.K fd ps n ks g gV) (hx : ∀ σ, PassesAt CX X σ (E σ)) (ha : PA X (e :: es) t) (hkw : PK X kws tk)
    (hall : (backToKw pos (keywordEach kws X.env)).all (·.1.isSome) = true := by rfl) (hks : (backToKw pos (keywordEach kws X.env)).filterMap (·.1) = ks := by rfl) (hdb : (x == ("__debug__" : Str)) = false := by decide)
    (he : starEach (e :: es) X.env = (false, eval e X.env) :: starEach es X.env := by rfl)
    (hpl : ((backTo pos (starEach (e :: es) X.env)).any (·.1) || (backToKw pos (keywordEach kws X.env)).any (·.1.isNone)) = false := by rfl) :
    PE X (.Call (.Name x p) (e :: es) kws pos) (tCallH n ks.length sp gV E t tk) := by
  refine ⟨fun pins s σ H Q I h => wpAny_Call_Name_kw (ld_glob I hg hm ?_ hdb)⟩
  refine PySem.W.callWith_KW (h₀ := X.base) I.ok.mod.kin hk hall (thn (ha.run pos pins s σ H _ I h) fun us s1 ⟨vs, H1, I1, r, q⟩ => ?_) hpl he
  refine thn (hkw.run pos pins s1 σ H1 _ I1 q) fun ws s2 ⟨zs, H2, I2, rz, l1, l2, q2⟩ => ⟨I2.kIn, ?_⟩
  rw [hks]
  exact runH F hc hr hb (hx σ) I2 r rz l1 l2 q2
/-- f(k = v, ..) -/
theorem pe_h0 (F : FnG X.prog X.w X.K X.mg X.base CX k f fd ps sp) (hc : Clean X.A) (hr : Room k X.A) (hg : Gl X x) (hm : X.mg x = some (.ref f)) (hk : PySem.W.keepIn X.K (.ref f) = true)
    (hb : KBn X.K fd ps 0 ks g gV) (hx : ∀ σ, PassesAt CX X σ (E σ)) (hkw : PK X kws tk)
    (hall : (backToKw pos (keywordEach kws X.env)).all (·.1.isSome) = true := by rfl) (hks : (backToKw pos (keywordEach kws X.env)).filterMap (·.1) = ks := by rfl) (hdb : (x == ("__debug__" : Str)) = false := by decide)
    (hpl : ((backTo pos (starEach [] X.env)).any (·.1) || (backToKw pos (keywordEach kws X.env)).any (·.1.isNone)) = false := by rfl) :
    PE X (.Call (.Name x p) [] kws pos) (tCallH 0 ks.length sp gV E tNil tk) := by
  refine ⟨fun pins s σ H Q I h => wpAny_Call_Name_kw (ld_glob I hg hm ?_ hdb)⟩
  refine PySem.W.callWith_KW0 (h₀ := X.base) I.ok.mod.kin hk hall (thn (hkw.run pos pins s σ H _ I h) fun ws s2 ⟨zs, H2, I2, rz, l1, l2, q2⟩ => ⟨I2.kIn, ?_⟩) hpl
  rw [hks]
  exact runH (us := []) F hc hr hb (hx σ) I2 .nil rz l1 l2 q2
end
end Gd

namespace Gd
open PySem PySem.Spec PyProof.Rows L2
/-! ### data as it stands in the heap, dicts among it -/
def kD : Key → PyData
  | .inl i => .int i
  | .inr x => .str x
mutual
inductive Da (K : PySem.W.Frag) (H : Hp) : V → PyData → Prop
  | non : Da K H .non .none
  | bl (b : Bool) : Da K H (.bl b) (.bool b)
  | int (i : Int) : Da K H (.int i) (.int i)
  | str (x : Str) : Da K H (.str x) (.str x)
  | lst {a : Addr} {xs : List V} {ds : List PyData} : H a = some (.lst xs) → DaL K H xs ds → Da K H (.ref a) (.list ds)
  | tup {a : Addr} {xs : List V} {ds : List PyData} : SqT K H a xs → DaL K H xs ds → Da K H (.ref a) (.tuple ds)
  | dct {a : Addr} {kvs : List (Key × V)} {ds : List PyData} : H a = some (.dK kvs) → DaL K H (kvs.map (·.2)) ds → Da K H (.ref a) (.dict ((kvs.map fun p => kD p.1).zip ds))
inductive DaL (K : PySem.W.Frag) (H : Hp) : List V → List PyData → Prop
  | nil : DaL K H [] []
  | cons {v : V} {vs : List V} {d : PyData} {ds : List PyData} : Da K H v d → DaL K H vs ds → DaL K H (v :: vs) (d :: ds)
end
section
variable {K : PySem.W.Frag} {H H' : Hp}
theorem DaL.length : ∀ {vs : List V} {ds : List PyData}, DaL K H vs ds → ds.length = vs.length
  | _, _, .nil => rfl
  | _, _, .cons _ r => by rw [List.length_cons, List.length_cons, r.length]
theorem sameT {a : Addr} {xs : List V} (e : Same H H') (h : SqT K H a xs) : SqT K H' a xs := by
  rcases h with (h | ⟨o, h⟩) | h
  · exact .inl (.inl (e _ _ h))
  · exact .inl (.inr ⟨o, e _ _ h⟩)
  · exact .inr h
mutual
theorem Da.same (e : Same H H') : ∀ {v : V} {d : PyData}, Da K H v d → Da K H' v d
  | _, _, .non => .non
  | _, _, .bl b => .bl b
  | _, _, .int i => .int i
  | _, _, .str x => .str x
  | _, _, .lst h r => .lst (e _ _ h) (DaL.same e r)
  | _, _, .tup h r => .tup (sameT e h) (DaL.same e r)
  | _, _, .dct h r => .dct (e _ _ h) (DaL.same e r)
theorem DaL.same (e : Same H H') : ∀ {vs : List V} {ds : List PyData}, DaL K H vs ds → DaL K H' vs ds
  | _, _, .nil => .nil
  | _, _, .cons h r => .cons (Da.same e h) (DaL.same e r)
end
theorem DaL.append : ∀ {vs ws : List V} {ds es : List PyData}, DaL K H vs ds → DaL K H ws es → DaL K H (vs ++ ws) (ds ++ es)
  | _, _, _, _, .nil, r => r
  | _, _, _, _, .cons h t, r => .cons h (DaL.append t r)
theorem DaL.strs : ∀ l : List Str, DaL K H (l.map V.str) (l.map PyData.str)
  | [] => .nil
  | x :: l => .cons (.str x) (DaL.strs l)
theorem DaL.ints : ∀ l : List Int, DaL K H (l.map V.int) (l.map PyData.int)
  | [] => .nil
  | x :: l => .cons (.int x) (DaL.ints l)
theorem DaL.bls : ∀ l : List Bool, DaL K H (l.map V.bl) (l.map PyData.bool)
  | [] => .nil
  | x :: l => .cons (.bl x) (DaL.bls l)
end
/-! ### what stands there is read -/
section
variable {X : Cx} {pins : List (Addr × Obj)} {σ : L2.St} {H : Hp} {s : Shared}
abbrev Free (as : List Addr) : Prop := sysModules ∉ as
theorem free_cons {a : Addr} {as : List Addr} (h : a ≠ sysModules) (r : Free as) : Free (a :: as) := fun m =>
  (List.mem_cons.mp m).elim (fun e => h e.symm) r
theorem free_app {as bs : List Addr} (h : Free as) (r : Free bs) : Free (as ++ bs) := fun m => (List.mem_append.mp m).elim h r
theorem notSys (I : Inv X pins σ H s) (hS : SysIn X.base) {a : Addr} {o : HO} (h : H a = some o) : a ≠ sysModules := by
  rintro rfl
  obtain ⟨ob, hb⟩ := hS
  rw [(I.bs _ _ hb).2] at h
  exact nomatch h
theorem key_reads : ∀ (kvs : List (Key × V)) (vs : List (Key × Value)) (es : List DictEntry), KV kvs vs → Pairs (mixKind X.prog X.w) es vs →
    (∃ as, ReadsAll s.heap (es.map (·.key)) (kvs.map fun p => kD p.1) as ∧ Free as) ∧ Vals (kvs.map (·.2)) (es.map (·.val))
  | _, _, _, .nil, .nil => ⟨⟨[], .nil, List.not_mem_nil⟩, .nil⟩
  | _, _, _, .cons ⟨ek, rv⟩ r, .cons hk hv p => by
    obtain ⟨⟨as, h1, h2⟩, h3⟩ := key_reads _ _ _ r p
    refine ⟨?_, .cons (by show RelV _ (DictEntry.val _); rw [hv]; exact rv) h3⟩
    rw [← ek] at hk
    rcases keyIs_shape hk with ⟨i, t, e1, e2⟩ | ⟨y, t, e1, e2⟩
    · refine ⟨[] ++ as, ?_, h2⟩
      refine .cons ?_ h1
      show Reads _ (DictEntry.key _) (kD _) []
      rw [e1, e2]
      exact .int i t
    · refine ⟨[] ++ as, ?_, h2⟩
      refine .cons ?_ h1
      show Reads _ (DictEntry.key _) (kD _) []
      rw [e1, e2]
      exact .str y t
theorem zip_fst : ∀ (ks ds : List PyData), ks.length = ds.length → (ks.zip ds).map (·.1) = ks
  | [], _, _ => rfl
  | _ :: _, [], h => nomatch h
  | k :: ks, d :: ds, h => by
    show k :: (ks.zip ds).map (·.1) = k :: ks
    rw [zip_fst ks ds (Nat.succ.inj h)]
theorem zip_snd : ∀ (ks ds : List PyData), ks.length = ds.length → (ks.zip ds).map (·.2) = ds
  | [], [], _ => rfl
  | [], _ :: _, h => nomatch h
  | _ :: _, [], h => nomatch h
  | k :: ks, d :: ds, h => by
    show d :: (ks.zip ds).map (·.2) = d :: ds
    rw [zip_snd ks ds (Nat.succ.inj h)]
mutual
theorem Da.reads (I : Inv X pins σ H s) (hS : SysIn X.base) : ∀ {v : V} {d : PyData} {u : Value}, Da X.K H v d → RelV v u → ∃ as, Reads s.heap u d as ∧ Free as
  | _, _, _, .non, r => by
    cases r
    exact ⟨_, .none, List.not_mem_nil⟩
  | _, _, _, .bl b, r => by
    cases r
    exact ⟨_, .bool b, List.not_mem_nil⟩
  | _, _, _, .int i, ⟨t, r⟩ => by
    cases r
    exact ⟨_, .int i t, List.not_mem_nil⟩
  | _, _, _, .str x, ⟨t, r⟩ => by
    cases r
    exact ⟨_, .str x t, List.not_mem_nil⟩
  | _, _, _, .lst h q, r => by
    cases r
    obtain ⟨_, its, n, rv, ho⟩ := I.hok _ _ h
    obtain ⟨as, h1, h2⟩ := DaL.reads I hS q rv
    exact ⟨_, .list ho rfl rfl h1, free_cons (notSys I hS h) h2⟩
  | _, _, _, .tup h q, r => by
    cases r
    obtain ⟨its, rv, ⟨o, ho, hc, n, hd⟩, _⟩ := I.tuple h
    obtain ⟨as, h1, h2⟩ := DaL.reads I hS q rv
    exact ⟨_, .tuple ho hc hd h1, h2⟩
  | _, _, _, .dct (kvs := kvs) (ds := ds) h q, r => by
    cases r
    obtain ⟨_, hns, vs, rk, o, es, ep, ho, hex, hd, _, hp, _⟩ := I.hok _ _ h
    obtain ⟨⟨as, k1, k2⟩, rv⟩ := key_reads (s := s) kvs vs es.toList rk hp
    obtain ⟨bs, v1, v2⟩ := DaL.reads I hS q rv
    have hl : (kvs.map fun p => kD p.1).length = ds.length := by
      rw [q.length, List.length_map, List.length_map]
    have k1' : ReadsAll s.heap (es.toList.map (·.key)) (((kvs.map fun p => kD p.1).zip ds).map (·.1)) as := by
      rw [zip_fst _ _ hl]
      exact k1
    have v1' : ReadsAll s.heap (es.toList.map (·.val)) (((kvs.map fun p => kD p.1).zip ds).map (·.2)) bs := by
      rw [zip_snd _ _ hl]
      exact v1
    exact ⟨_, .dict ho hex.1 hd k1' v1', free_app (free_cons (notSys I hS h) k2) v2⟩
theorem DaL.reads (I : Inv X pins σ H s) (hS : SysIn X.base) : ∀ {vs : List V} {ds : List PyData} {us : List Value}, DaL X.K H vs ds → Vals vs us → ∃ as, ReadsAll s.heap us ds as ∧ Free as
  | _, _, _, .nil, .nil => ⟨_, .nil, List.not_mem_nil⟩
  | _, _, _, .cons h q, .cons r rs => by
    obtain ⟨as, h1, h2⟩ := Da.reads I hS h r
    obtain ⟨bs, h3, h4⟩ := DaL.reads I hS q rs
    exact ⟨_, .cons h1 h3, free_app h2 h4⟩
end
end
/-! ### the room that a written form takes -/
mutual
/-- more than its written form has signs -/
def wid : PyData → Nat
  | .none => 4
  | .bool _ => 5
  | .int i => i.natAbs.log2 + 3
  | .str x => 10 * x.length + 2
  | .list xs => widL xs + 2
  | .tuple xs => widL xs + 3
  | .dict kvs => widK kvs + 2
def widL : List PyData → Nat
  | [] => 0
  | x :: xs => wid x + 2 + widL xs
def widK : List (PyData × PyData) → Nat
  | [] => 0
  | (k, v) :: r => wid k + wid v + 4 + widK r
end
mutual
/-- it can be written: the signs of its texts are signs, its numbers are not too great -/
def Ok1 : PyData → Prop
  | .none => True
  | .bool _ => True
  | .int i => i.natAbs.log2 < 1920
  | .str x => ∀ c ∈ x.cps.toList, c < 16 ^ 8
  | .list xs => OkL xs
  | .tuple xs => OkL xs
  | .dict kvs => OkK kvs
def OkL : List PyData → Prop
  | [] => True
  | x :: xs => Ok1 x ∧ OkL xs
def OkK : List (PyData × PyData) → Prop
  | [] => True
  | (k, v) :: r => Ok1 k ∧ Ok1 v ∧ OkK r
end

mutual
theorem ok_show : ∀ d : PyData, Ok1 d → d.showable = true
  | .none, _ => rfl
  | .bool _, _ => rfl
  | .int _, h => decide_eq_true h
  | .str _, _ => rfl
  | .list xs, h => ok_showL xs h
  | .tuple xs, h => ok_showL xs h
  | .dict kvs, h => ok_showK kvs h
theorem ok_showL : ∀ xs : List PyData, OkL xs → PyData.showableAll xs = true
  | [], _ => rfl
  | x :: xs, h => by
    show (PyData.showable x && PyData.showableAll xs) = true
    rw [ok_show x h.1, ok_showL xs h.2]
    rfl
theorem ok_showK : ∀ xs : List (PyData × PyData), OkK xs → PyData.showableKv xs = true
  | [], _ => rfl
  | (k, v) :: xs, h => by
    show (PyData.showable k && PyData.showable v && PyData.showableKv xs) = true
    rw [ok_show k h.1, ok_show v h.2.1, ok_showK xs h.2.2]
    rfl
end
theorem textFrom_le : ∀ (ts : List Str) (k : Nat) (acc : Str), (textFrom k acc ts).length ≤ acc.length + (ts.map fun t => t.length + 2).sum
  | [], _, acc => Nat.le_add_right _ _
  | t :: r, k, acc => by
    have ih := textFrom_le r (k + 1) (acc ++ (if k > 0 then ", " else "" : String) ++ t)
    rw [strLen_append, strLen_append] at ih
    have e : (((if k > 0 then ", " else "" : String) : Str)).length ≤ 2 := by split <;> decide +kernel
    rw [List.map_cons, List.sum_cons]
    show (textFrom (k + 1) (acc ++ (if k > 0 then ", " else "" : String) ++ t) r).length ≤ _
    omega
theorem listText_le (ts : List Str) : (listText ts).length ≤ 2 + (ts.map fun t => t.length + 2).sum := by
  have h := textFrom_le ts 0 "["
  have e1 : (("[" : String) : Str).length = 1 := by decide +kernel
  have e2 : (("]" : String) : Str).length = 1 := by decide +kernel
  unfold listText
  rw [strLen_append]
  omega
theorem piled_map : ∀ ts : List Str, piled ts = (ts.map fun t => t.length + 2).sum
  | [] => rfl
  | t :: r => by
    rw [piled_cons, piled_map r, List.map_cons, List.sum_cons]
theorem join_le (ts : List Str) : (Str.join ", " ts).length ≤ (ts.map fun t => t.length + 2).sum := by
  by_cases h : ts = []
  · subst h
    decide +kernel
  · have := join_length_add ts h
    rw [piled_map] at this
    omega
theorem tupleText_le (ts : List Str) : (tupleText ts).length ≤ 3 + (ts.map fun t => t.length + 2).sum := by
  have e3 : (((if ts.length == 1 then ",)" else ")" : String) : Str)).length ≤ 2 := by split <;> decide +kernel
  have e1 : (("(" : String) : Str).length = 1 := by decide +kernel
  have h := join_le ts
  unfold tupleText
  rw [strLen_append, strLen_append]
  omega
theorem dictText_le (ts : List Str) : (dictText ts).length ≤ 2 + (ts.map fun t => t.length + 2).sum := by
  have e1 : (("{" : String) : Str).length = 1 := by decide +kernel
  have e2 : (("}" : String) : Str).length = 1 := by decide +kernel
  have h := join_le ts
  unfold dictText
  rw [strLen_append, strLen_append]
  omega
mutual
theorem wid_le : ∀ d : PyData, Ok1 d → d.shown.length ≤ wid d
  | .none, _ => by show (("None" : String) : Str).length ≤ 4; decide +kernel
  | .bool b, _ => by cases b <;> (show Str.length _ ≤ 5) <;> decide +kernel
  | .int i, _ => by
    have h := int_text_length_le (a := i) (k := i.natAbs.log2 + 1) (Nat.succ_pos _) (Nat.lt_succ_self _)
    show (Str.ofString (toString i)).length ≤ i.natAbs.log2 + 3
    have e : (Str.ofString (toString i)).length = (toString i).length := PySem.ofString_length _
    omega
  | .str x, h => StrLaws.reprText_len x h
  | .list xs, h => by
    have h1 := widL_le xs h
    have h2 := listText_le (PyData.shownAll xs)
    show (listText (PyData.shownAll xs)).length ≤ widL xs + 2
    omega
  | .tuple xs, h => by
    have h1 := widL_le xs h
    have h2 := tupleText_le (PyData.shownAll xs)
    show (tupleText (PyData.shownAll xs)).length ≤ widL xs + 3
    omega
  | .dict xs, h => by
    have h1 := widK_le xs h
    have h2 := dictText_le (PyData.shownKv xs)
    show (dictText (PyData.shownKv xs)).length ≤ widK xs + 2
    omega
theorem widL_le : ∀ xs : List PyData, OkL xs → ((PyData.shownAll xs).map fun t => t.length + 2).sum ≤ widL xs
  | [], _ => Nat.le_refl _
  | x :: xs, h => by
    have h1 := wid_le x h.1
    have h2 := widL_le xs h.2
    show (x.shown.length + 2) + ((PyData.shownAll xs).map fun t => t.length + 2).sum ≤ wid x + 2 + widL xs
    omega
theorem widK_le : ∀ xs : List (PyData × PyData), OkK xs → ((PyData.shownKv xs).map fun t => t.length + 2).sum ≤ widK xs
  | [], _ => Nat.le_refl _
  | (k, v) :: xs, h => by
    have h1 := wid_le k h.1
    have h2 := wid_le v h.2.1
    have h3 := widK_le xs h.2.2
    have e2 : ((": " : String) : Str).length = 2 := by decide +kernel
    show ((k.shown ++ ": " ++ v.shown).length + 2) + ((PyData.shownKv xs).map fun t => t.length + 2).sum ≤ wid k + wid v + 4 + widK xs
    rw [strLen_append, strLen_append]
    omega
end
/-- repr of data: the text, all else as it stood -/
theorem call_repr {X : Cx} (hc : Clean X.A) (hS : SysIn X.base) (hu : X.A.units + 100 < cLine) : CallR X (.builtin "repr") (fun xs H Q => ∃ x d, xs = [x] ∧ Da X.K H x d ∧ Ok1 d ∧ wid d ≤ sizeLine ∧ d.depth ≤ 64 ∧ Q (.str d.shown) H) := by
  intro pins s σ H xs us Q I r h
  obtain ⟨x, d, rfl, hd, ok, hz, hdp, q⟩ := h
  obtain ⟨u, rfl, ru⟩ := vals1 r
  have hz' : d.shown.length ≤ sizeLine := Nat.le_trans (wid_le d ok) hz
  obtain ⟨as, hr, hf⟩ := Da.reads I hS hd ru
  have fin : ∀ (t tk : Tok) (h' : Heap), (∀ b o, s.heap.get? b = some o → h'.get? b = some o) → EP X pins σ Q (.str d.shown t) { s with heap := h', toks := tk } :=
    fun t tk h' k => ⟨.str d.shown, H, I.kept k, ⟨t, rfl⟩, q⟩
  cases hd with
  | non =>
    cases ru
    exact PySem.P.repr_of_none (fin _ _ s.heap fun _ _ e => e)
  | bl b =>
    cases ru
    exact PySem.P.repr_of_bool (fin _ _ s.heap fun _ _ e => e)
  | int i =>
    obtain ⟨t, rfl⟩ := ru
    exact PySem.P.repr_of_int ok (fin _ _ s.heap fun _ _ e => e)
  | str y =>
    obtain ⟨t, rfl⟩ := ru
    exact PySem.P.repr_of_str (fin _ _ s.heap fun _ _ e => e) hz'
  | lst h1 h2 =>
    cases ru
    exact repr_of_reads' hr (ok_show _ ok) (fun _ => hf) hc (by omega) (fun _ _ e => e) (fun h' u tk k => fin u tk h' k) hz'
  | tup h1 h2 =>
    cases ru
    exact repr_of_reads' hr (ok_show _ ok) (fun _ => hf) hc (by omega) (fun _ _ e => e) (fun h' u tk k => fin u tk h' k) hz'
  | dct h1 h2 =>
    cases ru
    exact repr_of_reads' hr (ok_show _ ok) (fun _ => hf) hc (by omega) (fun _ _ e => e) (fun h' u tk k => fin u tk h' k) hz'
end Gd

namespace Gd
open PySem PySem.Spec PyProof.Rows L2
/-! ### a def as its callers see it -/
structure Df (P : Program) (w : World) (K : PySem.W.Frag) (mg : Str → Option Value) (base : Heap) (CX : CXT) (k : Nat) (x : Str) (f : Addr) (fd : FuncData) (ps : List Str) (sp : Sp) : Prop where
  G : FnG P w K mg base CX k f fd ps sp
  m : mg x = some (.ref f)
  kp : PySem.W.keepIn K (.ref f) = true
  b : Binds K fd ps []
theorem room100 {k : Nat} {A : Around} (r : Room k A) : A.units + 100 < cLine := by
  have := r.un
  omega
section
variable {X : Cx} {CX : CXT} {k n : Nat} {f : Addr} {fd : FuncData} {ps ks : List Str} {sp : Sp} {E : L2.St → XK} {x : Str} {p pos : Pos} {e : Expr} {es : List Expr} {t tk : TA} {kws : List Keyword}
  {g : List Value → List Value → List Value} {gV : List V → List V → List V}
theorem pe_k {v : V} {x : Str} {pos : Pos} (hg : Gl X x) (h : ∃ u, X.mg x = some u ∧ RelV v u) (hd : (x == ("__debug__" : Str)) = false := by decide) : PE X (.Name x pos) (tC v) :=
  let ⟨_, h1, h2⟩ := h
  pe_glob hg h1 h2 hd
theorem pe_d (D : Df X.prog X.w X.K X.mg X.base CX k x f fd ps sp) (hc : Clean X.A) (hr : Room k X.A) (hg : Gl X x) (hx : ∀ σ, PassesAt CX X σ (E σ)) (ha : PA X (e :: es) t) (hdb : (x == ("__debug__" : Str)) = false := by decide)
    (he : starEach (e :: es) X.env = (false, eval e X.env) :: starEach es X.env := by rfl) (hpl : (backTo pos (starEach es X.env)).any (·.1) = false := by rfl) :
    PE X (.Call (.Name x p) (e :: es) [] pos) (tCallG sp [] E t) := pe_c D.G hc hr hg D.m D.kp D.b .nil hx ha hdb he hpl
theorem pe_d0 (D : Df X.prog X.w X.K X.mg X.base CX k x f fd ps sp) (hc : Clean X.A) (hr : Room k X.A) (hg : Gl X x) (hx : ∀ σ, PassesAt CX X σ (E σ)) (hdb : (x == ("__debug__" : Str)) = false := by decide) :
    PE X (.Call (.Name x p) [] [] pos) (tCallG sp [] E tNil) := pe_c0 D.G hc hr hg D.m D.kp D.b .nil hx hdb
/-- with defaults -/
structure Dd (P : Program) (w : World) (K : PySem.W.Frag) (mg : Str → Option Value) (base : Heap) (CX : CXT) (k : Nat) (x : Str) (f : Addr) (fd : FuncData) (ps : List Str) (dvs : List V) (sp : Sp) : Prop where
  G : FnG P w K mg base CX k f fd ps sp
  m : mg x = some (.ref f)
  kp : PySem.W.keepIn K (.ref f) = true
  b : ∃ ds, Vals dvs ds ∧ Binds K fd ps ds
theorem pe_dd {dvs : List V} (D : Dd X.prog X.w X.K X.mg X.base CX k x f fd ps dvs sp) (hc : Clean X.A) (hr : Room k X.A) (hg : Gl X x) (hx : ∀ σ, PassesAt CX X σ (E σ)) (ha : PA X (e :: es) t) (hdb : (x == ("__debug__" : Str)) = false := by decide)
    (he : starEach (e :: es) X.env = (false, eval e X.env) :: starEach es X.env := by rfl) (hpl : (backTo pos (starEach es X.env)).any (·.1) = false := by rfl) :
    PE X (.Call (.Name x p) (e :: es) [] pos) (tCallG sp dvs E t) :=
  let ⟨_, hd, hb⟩ := D.b
  pe_c D.G hc hr hg D.m D.kp hb hd hx ha hdb he hpl
/-- called with keywords -/
structure Dk (P : Program) (w : World) (K : PySem.W.Frag) (mg : Str → Option Value) (base : Heap) (CX : CXT) (k : Nat) (x : Str) (f : Addr) (fd : FuncData) (ps : List Str) (sp : Sp) (n : Nat) (ks : List Str) (gV : List V → List V → List V) : Prop where
  G : FnG P w K mg base CX k f fd ps sp
  m : mg x = some (.ref f)
  kp : PySem.W.keepIn K (.ref f) = true
  b : ∃ g, KBn K fd ps n ks g gV
theorem pe_dk (D : Dk X.prog X.w X.K X.mg X.base CX k x f fd ps sp n ks gV) (hc : Clean X.A) (hr : Room k X.A) (hg : Gl X x) (hx : ∀ σ, PassesAt CX X σ (E σ)) (ha : PA X (e :: es) t) (hkw : PK X kws tk)
    (hall : (backToKw pos (keywordEach kws X.env)).all (·.1.isSome) = true := by rfl) (hks : (backToKw pos (keywordEach kws X.env)).filterMap (·.1) = ks := by rfl) (hdb : (x == ("__debug__" : Str)) = false := by decide)
    (he : starEach (e :: es) X.env = (false, eval e X.env) :: starEach es X.env := by rfl)
    (hpl : ((backTo pos (starEach (e :: es) X.env)).any (·.1) || (backToKw pos (keywordEach kws X.env)).any (·.1.isNone)) = false := by rfl) :
    PE X (.Call (.Name x p) (e :: es) kws pos) (tCallH n ks.length sp gV E t tk) :=
  let ⟨_, hb⟩ := D.b
  pe_h D.G hc hr hg D.m D.kp hb hx ha hkw hall hks hdb he hpl
theorem pe_dk0 (D : Dk X.prog X.w X.K X.mg X.base CX k x f fd ps sp 0 ks gV) (hc : Clean X.A) (hr : Room k X.A) (hg : Gl X x) (hx : ∀ σ, PassesAt CX X σ (E σ)) (hkw : PK X kws tk)
    (hall : (backToKw pos (keywordEach kws X.env)).all (·.1.isSome) = true := by rfl) (hks : (backToKw pos (keywordEach kws X.env)).filterMap (·.1) = ks := by rfl) (hdb : (x == ("__debug__" : Str)) = false := by decide)
    (hpl : ((backTo pos (starEach [] X.env)).any (·.1) || (backToKw pos (keywordEach kws X.env)).any (·.1.isNone)) = false := by rfl) :
    PE X (.Call (.Name x p) [] kws pos) (tCallH 0 ks.length sp gV E tNil tk) :=
  let ⟨_, hb⟩ := D.b
  pe_h0 D.G hc hr hg D.m D.kp hb hx hkw hall hks hdb hpl
end
/-! ### is True, is not False -/
section
variable {X : Cx}
theorem rel_bl {x : V} {u : Value} {b : Bool} (r : RelV x u) (h : x ≠ .bl b) : u ≠ Value.bool b := by
  intro e
  subst e
  cases x with
  | bl c =>
    have : Value.bool b = Value.bool c := r
    cases this
    exact h rfl
  | non => exact nomatch (r : Value.bool b = Value.none)
  | int _ => obtain ⟨_, q⟩ := r; exact nomatch q
  | str _ => obtain ⟨_, q⟩ := r; exact nomatch q
  | byt _ => obtain ⟨_, q⟩ := r; exact nomatch q
  | flt _ => obtain ⟨_, q⟩ := r; exact nomatch q
  | ref a => exact nomatch (r : Value.bool b = Value.ref a)
  | ty n => exact nomatch (r : Value.bool b = Value.type n)
theorem plain_bl {x : V} {u : Value} {b : Bool} (r : RelV x u) : plainIs u (Value.bool b) = true := by
  cases x with
  | bl c => cases (show u = Value.bool c from r); rfl
  | non => cases (show u = Value.none from r); rfl
  | int _ => obtain ⟨_, q⟩ := r; subst q; rfl
  | str _ => obtain ⟨_, q⟩ := r; subst q; rfl
  | byt _ => obtain ⟨_, q⟩ := r; subst q; rfl
  | flt _ => obtain ⟨_, q⟩ := r; subst q; rfl
  | ref a => cases (show u = Value.ref a from r); rfl
  | ty n => cases (show u = Value.type n from r); rfl
theorem op_isB : OpR X (compareOp .Is) (fun x y H Q => ∃ b, y = .bl b ∧ Q (.bl (decide (x = .bl b))) H) := by
  intro pins s σ H x y v u Q I rx ry h
  obtain ⟨b, rfl, q⟩ := h
  cases (show u = Value.bool b from ry)
  by_cases e : x = .bl b
  · subst e
    cases (show v = Value.bool b from rx)
    exact wpAny_is_self rfl ⟨.bl true, H, I, rfl, by simpa using q⟩
  · exact wpAny_is_other (plain_bl rx) (rel_bl rx e) ⟨.bl false, H, I, rfl, by simpa [e] using q⟩
theorem op_notB : OpR X (compareOp .IsNot) (fun x y H Q => ∃ b, y = .bl b ∧ Q (.bl (!decide (x = .bl b))) H) := by
  intro pins s σ H x y v u Q I rx ry h
  obtain ⟨b, rfl, q⟩ := h
  cases (show u = Value.bool b from ry)
  by_cases e : x = .bl b
  · subst e
    cases (show v = Value.bool b from rx)
    exact wpAny_isNot_self rfl ⟨.bl false, H, I, rfl, by simpa using q⟩
  · exact wpAny_isNot_other (plain_bl rx) (rel_bl rx e) ⟨.bl true, H, I, rfl, by simpa [e] using q⟩
/-! ### s * n -/
def repS (x : Str) (n : Int) : Str := ⟨(List.replicate n.toNat x.cps).foldl (· ++ ·) #[]⟩
theorem fold_app (c : Array Nat) : ∀ (n : Nat) (a : Array Nat), ((List.replicate n c).foldl (· ++ ·) a).toList = a.toList ++ (List.replicate n c.toList).flatten
  | 0, a => by simp
  | n + 1, a => by
    rw [List.replicate_succ, List.foldl_cons, fold_app c n (a ++ c), List.replicate_succ, List.flatten_cons, Array.toList_append, List.append_assoc]
theorem repS_list (x : Str) (n : Int) : (repS x n).cps.toList = (List.replicate n.toNat x.cps.toList).flatten := by
  show ((List.replicate n.toNat x.cps).foldl (· ++ ·) #[]).toList = _
  rw [fold_app]
  rfl
theorem op_repS : OpR X (binaryOp .Mult) (fun x y H Q => ∃ z n, x = .str z ∧ y = .int n ∧ 1 < n ∧ n < 1000000 ∧ z.length ≠ 0 ∧ z.length * n.toNat ≤ sizeLine ∧ Q (.str (repS z n)) H) := by
  intro pins s σ H x y v u Q I rx ry h
  obtain ⟨z, n, rfl, rfl, h1, h2, h0, hz, q⟩ := h
  obtain ⟨t, rfl⟩ := rx
  obtain ⟨t', rfl⟩ := ry
  have e1 : (n == 1 || z.length == 0) = false := by
    rw [Bool.or_eq_false_iff]
    exact ⟨beq_eq_false_iff_ne.mpr (by omega), beq_eq_false_iff_ne.mpr h0⟩
  have hb : ¬ (z.length : Int) > (2 ^ 63 - 1) / n := by
    intro c
    have hs := hz
    rw [sizeLine_eq] at hs
    have h3 : (z.length : Int) * n ≤ 16777216 := by
      have h4 : ((z.length * n.toNat : Nat) : Int) ≤ 16777216 := Int.ofNat_le.mpr hs
      rw [Int.natCast_mul, Int.toNat_of_nonneg (by omega)] at h4
      exact h4
    have h5 : (z.length : Int) ≤ 16777216 := by
      have h6 : (1 : Int) ≤ z.length := by omega
      have h7 : (z.length : Int) * 1 ≤ (z.length : Int) * n := Int.mul_le_mul_of_nonneg_left (by omega) (by omega)
      omega
    have h8 : (2 ^ 63 - 1 : Int) / n ≥ (2 ^ 63 - 1) / 1000000 := by
      have : (2 ^ 63 - 1 : Int) / 1000000 * n ≤ (2 ^ 63 - 1) := by
        have h9 : (2 ^ 63 - 1 : Int) / 1000000 = 9223372036854 := by decide
        rw [h9]
        omega
      exact (Int.le_ediv_iff_mul_le (by omega)).mpr this
    have h10 : (2 ^ 63 - 1 : Int) / 1000000 = 9223372036854 := by decide
    omega
  refine PySem.P.mul_str (by rw [Bool.or_eq_false_iff]; exact ⟨decide_eq_false (by omega), decide_eq_false (by omega)⟩) (fun _ _ => hb) (fun _ _ => ?_) ?_
  · unfold Builtin.Str.tooLong
    exact decide_eq_false (by omega)
  · rw [if_neg (by omega), if_neg (by rw [e1]; exact Bool.false_ne_true)]
    have hl : (repS z n).length ≤ sizeLine := by
      have e : (repS z n).length = z.length * n.toNat := by
        show (repS z n).cps.size = _
        rw [← Array.length_toList, repS_list, List.length_flatten, List.map_replicate, List.sum_replicate_nat]
        show n.toNat * z.cps.toList.length = _
        rw [Array.length_toList, Nat.mul_comm]
        rfl
      omega
    exact ⟨hl, ⟨.str (repS z n), H, I.tok _, ⟨_, rfl⟩, q⟩⟩
end
end Gd

namespace Gd
open PySem PySem.Spec PyProof.Rows L2
/-! ### the kind of a value -/
inductive Kind where
  | non | bl | int | str | lst | tup | dct | odd
  deriving DecidableEq
def Kind.name : Kind → String
  | .non => "NoneType"
  | .bl => "bool"
  | .int => "int"
  | .str => "str"
  | .lst => "list"
  | .tup => "tuple"
  | .dct => "dict"
  | .odd => "?"
def kindO : Option HO → Kind
  | some (.lst _) => .lst
  | some (.tup _) => .tup
  | some (.dK _) => .dct
  | _ => .odd
def kind (H : Hp) : V → Kind
  | .non => .non
  | .bl _ => .bl
  | .int _ => .int
  | .str _ => .str
  | .ref a => kindO (H a)
  | _ => .odd
abbrev Pv (H : Hp) (v : V) : Prop := kind H v ≠ .odd
/-- isinstance of such a value -/
def inst (n : String) (k : Kind) : Bool := k.name == n || (n == "int" && k == .bl)
theorem kind_ty {K : PySem.W.Frag} {H : Hp} {v : V} (h : Pv H v) : TyX K H v (.type (kind H v).name) := by
  cases v with
  | non => exact .base .non
  | bl b => exact .base (.bl b)
  | int i => exact .base (.int i)
  | str x => exact .base (.str x)
  | byt b => exact absurd rfl h
  | flt b => exact absurd rfl h
  | ty n => exact absurd rfl h
  | ref a =>
    change kindO (H a) ≠ .odd at h
    show TyX K H (.ref a) (.type (kindO (H a)).name)
    cases e : H a with
    | none => rw [e] at h; exact absurd rfl h
    | some o =>
      rw [e] at h
      cases o with
      | lst xs => exact .base (.lst e)
      | tup xs => exact .base (.tup e)
      | dK kvs => exact .base (.dK e)
      | _ => exact absurd rfl h
abbrev Cn (n : String) : Prop := n = "int" ∨ n = "str" ∨ n = "bool" ∨ n = "list" ∨ n = "tuple" ∨ n = "dict"
theorem kit_kind {K : PySem.W.Frag} {H : Hp} {v : V} (h : Pv H v) {n : String} (hn : Cn n) : PySem.W.kitOne K (.type (kind H v).name) (.type n) = some (inst n (kind H v)) := by
  apply kit_ty
  revert h
  unfold Pv
  generalize kind H v = k
  intro h
  rcases hn with rfl | rfl | rfl | rfl | rfl | rfl <;> cases k <;> first | exact absurd rfl h | decide +kernel
section
variable {X : Cx}
theorem call_isk : CallR X (.builtin "isinstance") (fun xs H Q => ∃ x n, xs = [x, .ty n] ∧ Cn n ∧ Pv H x ∧ Q (.bl (inst n (kind H x))) H) := by
  intro pins s σ H xs us Q I r h
  obtain ⟨x, n, rfl, hn, hv, q⟩ := h
  exact call_isi pins s σ H _ us Q I r ⟨x, .ty n, _, _, _, rfl, .ty n, kind_ty hv, kit_kind hv hn, q⟩
/-- (list, tuple) and its like -/
theorem call_isk2 : CallR X (.builtin "isinstance") (fun xs H Q => ∃ x t n m, xs = [x, .ref t] ∧ H t = some (.tup [.ty n, .ty m]) ∧ Cn n ∧ Cn m ∧ Pv H x ∧ Q (.bl (inst n (kind H x) || inst m (kind H x))) H) := by
  intro pins s σ H xs us Q I r h
  obtain ⟨x, t, n, m, rfl, ht, hn, hm, hv, q⟩ := h
  refine call_isiT pins s σ H _ us Q I r ⟨x, t, [.ty n, .ty m], _, [.type n, .type m], _, rfl, ht, .cons (.ty n) (.cons (.ty m) .nil), kind_ty hv, ?_, q⟩
  refine kitAny_cons (kit_kind hv hn) (fun e1 => ?_) (fun e1 => ?_)
  · rw [e1, Bool.false_or]
    exact kitAny_cons (kit_kind hv hm) (fun e2 => by rw [e2]; exact kitAny_nil) fun e2 => e2
  · rw [e1]
    rfl
end
/-- an int other than True and False -/
def isInt : V → Bool
  | .int _ => true
  | _ => false
def isStr : V → Bool
  | .str _ => true
  | _ => false
theorem kind_ref {H : Hp} {a : Addr} : kind H (.ref a) = .lst ∨ kind H (.ref a) = .tup ∨ kind H (.ref a) = .dct ∨ kind H (.ref a) = .odd := by
  show kindO (H a) = _ ∨ kindO (H a) = _ ∨ kindO (H a) = _ ∨ kindO (H a) = _
  cases H a with
  | none => exact .inr (.inr (.inr rfl))
  | some o =>
    cases o <;> first | exact .inl rfl | exact .inr (.inl rfl) | exact .inr (.inr (.inl rfl)) | exact .inr (.inr (.inr rfl))
theorem isInt_kind (H : Hp) (v : V) : (inst "int" (kind H v) && !inst "bool" (kind H v)) = isInt v := by
  cases v with
  | ref a =>
    show _ = false
    rcases kind_ref (H := H) (a := a) with e | e | e | e <;> rw [e] <;> decide +kernel
  | _ => rfl
theorem isStr_kind (H : Hp) (v : V) : inst "str" (kind H v) = isStr v := by
  cases v with
  | ref a =>
    show _ = false
    rcases kind_ref (H := H) (a := a) with e | e | e | e <;> rw [e] <;> decide +kernel
  | _ => rfl
theorem kind_same {H H' : Hp} (e : Same H H') {v : V} (h : Pv H v) : kind H' v = kind H v := by
  cases v with
  | ref a =>
    change kindO (H a) ≠ .odd at h
    show kindO (H' a) = kindO (H a)
    cases q : H a with
    | none => rw [q] at h; exact absurd rfl h
    | some o => rw [e a o q]
  | _ => rfl
theorem Pv.same {H H' : Hp} (e : Same H H') {v : V} (h : Pv H v) : Pv H' v := by
  unfold Pv
  rw [kind_same e h]
  exact h
theorem isStr_iff {v : V} (h : isStr v = true) : ∃ x, v = .str x := by
  cases v <;> first | exact ⟨_, rfl⟩ | exact absurd h Bool.false_ne_true
theorem isInt_iff {v : V} (h : isInt v = true) : ∃ x, v = .int x := by
  cases v <;> first | exact ⟨_, rfl⟩ | exact absurd h Bool.false_ne_true
end Gd

namespace Gd
open PySem L2
/-! ### the law's pool of digits -/
/-- it stands at p -/
def BoxAt (H : Hp) (p : Addr) : Prop := ∃ a b c : Int, H p = some (.lst [.int a, .int b, .int c]) ∧ 0 ≤ b ∧ b < 2147483647
/-- it may have turned, nothing else has -/
def Turned (H H' : Hp) (p : Addr) : Prop := BoxAt H' p ∧ ∀ q, q ≠ p → H' q = H q
theorem Turned.refl {H : Hp} {p : Addr} (b : BoxAt H p) : Turned H H p := ⟨b, fun _ _ => rfl⟩
theorem Turned.trans {H H1 H2 : Hp} {p : Addr} (a : Turned H H1 p) (b : Turned H1 H2 p) : Turned H H2 p := ⟨b.1, fun q hq => (b.2 q hq).trans (a.2 q hq)⟩
theorem Turned.box {H H' : Hp} {p : Addr} (t : Turned H H' p) : BoxAt H' p := t.1
theorem Turned.at {H H' : Hp} {p q : Addr} {o : HO} (t : Turned H H' p) (hq : q ≠ p) (h : H q = some o) : H' q = some o := (t.2 q hq).trans h
theorem turned_upd {H : Hp} {p : Addr} {a b c : Int} (h0 : 0 ≤ b) (h1 : b < 2147483647) : Turned H (upd H p (.lst [.int a, .int b, .int c])) p :=
  ⟨⟨a, b, c, upd_same, h0, h1⟩, fun q hq => upd_ne hq⟩
theorem BoxAt.some {H : Hp} {p : Addr} (b : BoxAt H p) : ∃ o, H p = some o := let ⟨_, _, _, h, _⟩ := b; ⟨_, h⟩
theorem BoxAt.upd {H : Hp} {p q : Addr} {o : HO} (b : BoxAt H p) (hq : H q = none) : BoxAt (upd H q o) p := by
  obtain ⟨x, y, z, h, r⟩ := b
  exact ⟨x, y, z, by rw [upd_ne (ne_of_none h hq)]; exact h, r⟩
def spScr (K : PySem.W.Frag) : Sp := fun vs H Q _ => ∃ (a : Addr) (ns : List Int) (k : Int), vs = [.ref a, .int k] ∧ SqL K H a (ns.map V.int) ∧ 0 ≤ k ∧ k < 1000 ∧ ∀ z, Q (.int z) H
def spBox : Sp := fun vs H Q _ => ∃ z : Int, vs = [.int z] ∧ ∀ (p : Addr) (o : HO), H p = none → BoxAt (upd H p o) p → Q (.ref p) (upd H p o)
def spTake : Sp := fun vs H Q _ => ∃ (p : Addr) (n : Int), vs = [.ref p, .int n] ∧ BoxAt H p ∧ 0 < n ∧ n < 1000000 ∧ ∀ (d : Int) (H' : Hp), 0 ≤ d → d < n → Turned H H' p → Q (.int d) H'
/-- an item of the script -/
theorem at_script {ns : List Int} {k : Int} (h0 : 0 ≤ k) (h1 : k < ns.length) : ∃ z, atI (ns.map V.int) k = some (.int z) := by
  obtain ⟨j, rfl⟩ := Int.eq_ofNat_of_zero_le h0
  have hj : j < ns.length := by omega
  refine ⟨ns[j], atI_nat ?_⟩
  rw [List.getElem?_map, List.getElem?_eq_getElem hj]
  rfl
theorem mod_pos {i j : Int} (h : 0 < j) : 0 ≤ i % j ∧ i % j < j := ⟨Int.emod_nonneg _ (by omega), Int.emod_lt_of_pos _ h⟩
end Gd

namespace Gd
open PySem L2
theorem iteB {c : Bool} {A B : Prop} (h1 : c = true → A) (h2 : c = false → B) : if c = true then A else B := by
  cases c with
  | true => exact iteT (h1 rfl)
  | false => exact iteF (h2 rfl)
/-- what a comprehension over J asks, its list at D -/
def LcW (J : It) (g : TG) (tt : TT) (te : TE) (vs : List Nat) (σ : L2.St) (H1 : Hp) (D : Addr) (Qd : Hp → Prop) : Prop :=
  ∃ W : Nat → Nat → Hp → Prop, (∃ m, W 0 m (upd H1 D (.lst []))) ∧ ∀ i m H, W i m H →
    (J.stop i H ∧ Qd H) ∨ (J.go i H ∧ ∃ Nx : Hp → Prop, (∀ H', Nx H' → ∃ m', m' < m ∧ W (i + 1) m' H') ∧ ∀ x H', J.yld i H x H' →
      g x (wipe σ vs) H' fun σ2 H2 => wipe σ2 vs = wipe σ vs ∧ tt σ2 H2 fun b H3 => if b = true then te σ2 H3 fun y H4 => ∃ acc, H4 D = some (.lst acc) ∧ acc.length < sizeLine ∧ Nx (upd H4 D (.lst (acc ++ [y]))) else Nx H3)
theorem wipe1 (σ : L2.St) (j : Nat) (v : Option V) : wipe ((wipe σ [j]).set j v) [j] = wipe σ [j] := by
  show ((σ.set j none).set j v).set j none = σ.set j none
  rw [List.set_set, List.set_set]
theorem take_snoc {α : Type} {l : List α} {i : Nat} {x : α} (h : l[i]? = some x) : l.take (i + 1) = l.take i ++ [x] := by
  rw [List.take_succ, h]
  rfl
section
variable {K : PySem.W.Frag} {tt : TT} {te : TE} {j : Nat} {σ : L2.St} {H1 : Hp} {D : Addr} {Qd : Hp → Prop}
/-- over a text, all else as it stood -/
theorem lc_text {z : Str} (f : Nat → V) (p : Nat → Bool) (hz : z.length < sizeLine)
    (ht : ∀ c acc (Q : Bool → Hp → Prop), c ∈ z.cps.toList → Q (p c) (upd H1 D (.lst acc)) → tt ((wipe σ [j]).set j (some (.str ⟨#[c]⟩))) (upd H1 D (.lst acc)) Q)
    (he : ∀ c acc (Q : VK), c ∈ z.cps.toList → p c = true → Q (f c) (upd H1 D (.lst acc)) → te ((wipe σ [j]).set j (some (.str ⟨#[c]⟩))) (upd H1 D (.lst acc)) Q)
    (hd : Qd (upd H1 D (.lst ((z.cps.toList.filter p).map f)))) : LcW (Its z) (gName j) tt te [j] σ H1 D Qd := by
  have hl : z.cps.toList.length = z.cps.size := Array.length_toList
  refine lc_it walk_str (fun i H => H = upd H1 D (.lst (((z.cps.toList.take i).filter p).map f))) rfl (fun _ _ _ _ => trivial) ?_ ?_
  · rintro i x H H' hi e ⟨e', c, hc, rfl⟩
    subst e'
    have hc' : z.cps.toList[i]? = some c := by rw [Array.getElem?_toList]; exact hc
    have hm : c ∈ z.cps.toList := List.mem_of_getElem? hc'
    show gName j _ (wipe σ [j]) H' _
    refine ⟨wipe1 _ _ _, ?_⟩
    rw [e]
    refine ht c _ _ hm ?_
    have es := take_snoc hc'
    refine iteB (fun b => ?_) (fun b => ?_)
    · refine he c _ _ hm b ⟨_, upd_same, ?_, ?_⟩
      · rw [List.length_map]
        refine Nat.lt_of_le_of_lt (List.length_filter_le _ _) ?_
        rw [List.length_take]
        have : z.length = z.cps.size := rfl
        omega
      · rw [upd_upd, es, List.filter_append, List.map_append]
        have e1 : [c].filter p = [c] := by rw [List.filter_cons, if_pos b]; rfl
        rw [e1]
        rfl
    · rw [es, List.filter_append, List.map_append]
      have e1 : [c].filter p = [] := by rw [List.filter_cons, if_neg (by rw [b]; exact Bool.false_ne_true)]; rfl
      rw [e1]
      show upd H1 D _ = _
      rw [List.map_nil, List.append_nil]
  · intro H e
    subst e
    rw [← hl, List.take_length]
    exact hd
end
/-- order of single signs -/
theorem lt_sign (a b : Nat) : decide (([a] : List Nat) < [b]) = decide (a < b) := by
  by_cases h : a < b
  · rw [decide_eq_true h]
    exact decide_eq_true (List.Lex.rel h)
  · rw [decide_eq_false h]
    refine decide_eq_false fun z => ?_
    cases z with
    | rel h' => exact h h'
    | cons h' => cases h'
end Gd

namespace Gd
open PySem L2
/-! ### plain texts of a size -/
structure Tx (n : Nat) (x : Str) : Prop where
  len : x.length ≤ n
  asc : ∀ c ∈ x.cps.toList, c < 128
theorem len_list (x : Str) : x.length = x.cps.toList.length := (Array.length_toList).symm
theorem Tx.mono {n m : Nat} {x : Str} (t : Tx n x) (h : n ≤ m) : Tx m x := ⟨Nat.le_trans t.len h, t.asc⟩
theorem app_list (x y : Str) : (x ++ y).cps.toList = x.cps.toList ++ y.cps.toList := Array.toList_append
theorem Tx.app {n m : Nat} {x y : Str} (t : Tx n x) (u : Tx m y) : Tx (n + m) (x ++ y) := by
  refine ⟨?_, fun c hc => ?_⟩
  · have := t.len
    have := u.len
    rw [len_list, app_list, List.length_append, ← len_list, ← len_list]
    omega
  · rw [app_list] at hc
    rcases List.mem_append.mp hc with h | h
    · exact t.asc c h
    · exact u.asc c h
theorem cut_mem {z : Str} {lo hi : Option Int} {c : Nat} (h : c ∈ (cutS z lo hi).cps.toList) : c ∈ z.cps.toList := by
  have h' : c ∈ (z.cps.toList.drop (HT.sIx z.length 0 lo)).take (HT.sIx z.length z.length hi - HT.sIx z.length 0 lo) := h
  exact List.mem_of_mem_drop (List.mem_of_mem_take h')
theorem Tx.cut {n : Nat} {z : Str} (t : Tx n z) (lo hi : Option Int) : Tx n (cutS z lo hi) := ⟨Nat.le_trans (cutS_length z lo hi) t.len, fun c hc => t.asc c (cut_mem hc)⟩
theorem Tx.sign {n : Nat} {z : Str} (t : Tx n z) {c : Nat} (h : c ∈ z.cps.toList) : Tx 1 ⟨#[c]⟩ := ⟨Nat.le_refl _, fun d hd => by
  have : d = c := by simpa using hd
  rw [this]
  exact t.asc c h⟩
/-- a written one: by decide +kernel -/
theorem Tx.of {n : Nat} {x : Str} (h : (decide (x.length ≤ n) && x.cps.toList.all fun c => decide (c < 128)) = true) : Tx n x := by
  rw [Bool.and_eq_true, decide_eq_true_eq, List.all_eq_true] at h
  exact ⟨h.1, fun c hc => of_decide_eq_true (h.2 c hc)⟩
theorem Tx.big {n : Nat} {x : Str} (t : Tx n x) : ∀ c ∈ x.cps.toList, c < 16 ^ 8 := fun c hc => Nat.lt_trans (t.asc c hc) (by decide)
theorem atI_mem {α : Type} {l : List α} {i : Int} {v : α} (h : atI l i = some v) : v ∈ l := by
  unfold atI at h
  cases e : ixN l.length i with
  | none => rw [e] at h; exact nomatch h
  | some j =>
    rw [e] at h
    exact List.mem_of_getElem? h
/-- an item that all of them are like -/
theorem atI_all {α : Type} {l : List α} {p : α → Prop} (h : ∀ v ∈ l, p v) {d : Int} (h0 : 0 ≤ d) (h1 : d < l.length) : ∃ v, atI l d = some v ∧ p v := by
  obtain ⟨j, rfl⟩ := Int.eq_ofNat_of_zero_le h0
  have hj : j < l.length := by omega
  exact ⟨l[j], atI_nat (List.getElem?_eq_getElem hj), h _ (List.getElem_mem hj)⟩
/-- a sign of a text -/
theorem atI_sign {n : Nat} {z : Str} (t : Tx n z) {d : Int} (h0 : 0 ≤ d) (h1 : d < z.length) : ∃ c, atI z.cps.toList d = some c ∧ Tx 1 ⟨#[c]⟩ ∧ c ∈ z.cps.toList := by
  obtain ⟨c, h, hm⟩ := atI_all (l := z.cps.toList) (p := fun c => c ∈ z.cps.toList) (fun _ h => h) h0 (by rw [← len_list]; exact h1)
  exact ⟨c, h, t.sign hm, hm⟩
/-! ### parts and equality of texts -/
theorem str_ext {x y : Str} (h : x.cps.toList = y.cps.toList) : x = y := by
  obtain ⟨a⟩ := x
  obtain ⟨b⟩ := y
  exact congrArg Str.mk (Array.toList_inj.mp h)
theorem str_eq (x y : Str) : decide (V.str x = V.str y) = decide (x.cps.toList = y.cps.toList) :=
  decide_eq_decide.mpr ⟨fun z => by rw [V.str.injEq] at z; rw [z], fun z => by rw [str_ext z]⟩
theorem cut_take (x : Str) (k : Nat) : (cutS x none (some (k : Int))).cps.toList = x.cps.toList.take k := by
  show (x.cps.toList.drop (HT.sIx x.length 0 none)).take (HT.sIx x.length x.length (some (k : Int)) - HT.sIx x.length 0 none) = _
  rw [HT.sIx_none, HT.sIx_nat, List.drop_zero, Nat.sub_zero, len_list]
  rcases Nat.le_total k x.cps.toList.length with h | h
  · rw [Nat.min_eq_left h]
  · rw [Nat.min_eq_right h, List.take_length, List.take_of_length_le h]
theorem cut_drop (x : Str) (k : Nat) : (cutS x (some (k : Int)) none).cps.toList = x.cps.toList.drop k := by
  show (x.cps.toList.drop (HT.sIx x.length 0 (some (k : Int)))).take (HT.sIx x.length x.length none - HT.sIx x.length 0 (some (k : Int))) = _
  rw [HT.sIx_none, HT.sIx_nat, len_list]
  rcases Nat.le_total k x.cps.toList.length with h | h
  · rw [Nat.min_eq_left h, List.take_of_length_le (by rw [List.length_drop]; exact Nat.le_refl _)]
  · rw [Nat.min_eq_right h, Nat.sub_self, List.take_zero, List.drop_of_length_le h]
/-! ### joined -/
theorem join_str (sep : Str) (l : List Str) : Txt.join sep l = Str.join sep l := eq_of_beq (PyProof.Rows.join_plain_closes sep l)
theorem join_len (sep : Str) : ∀ l : List Str, (Str.join sep l).length ≤ (l.map (·.length)).sum + l.length * sep.length
  | [] => Nat.zero_le _
  | [x] => by
    show x.length ≤ _
    simp
  | x :: y :: r => by
    have ih := join_len sep (y :: r)
    show (x ++ sep ++ Str.join sep (y :: r)).length ≤ _
    rw [len_list, app_list, app_list, List.length_append, List.length_append, ← len_list, ← len_list, ← len_list, List.map_cons, List.sum_cons, List.length_cons, Nat.succ_mul]
    omega
theorem join_mem (sep : Str) {c : Nat} : ∀ {l : List Str}, c ∈ (Str.join sep l).cps.toList → c ∈ sep.cps.toList ∨ ∃ y ∈ l, c ∈ y.cps.toList
  | [], h => nomatch (show c ∈ ([] : List Nat) from h)
  | [x], h => .inr ⟨x, List.mem_cons_self, h⟩
  | x :: y :: r, h => by
    have h' : c ∈ (x ++ sep ++ Str.join sep (y :: r)).cps.toList := h
    rw [app_list, app_list, List.mem_append, List.mem_append] at h'
    rcases h' with (h | h) | h
    · exact .inr ⟨x, List.mem_cons_self, h⟩
    · exact .inl h
    · rcases join_mem sep h with h | ⟨z, hz, h⟩
      · exact .inl h
      · exact .inr ⟨z, List.mem_cons_of_mem _ hz, h⟩
theorem join_empty_len : ∀ l : List Str, (Str.join "" l).length = (l.map (·.length)).sum
  | [] => rfl
  | [x] => by
    show x.length = _
    simp
  | x :: y :: r => by
    have ih := join_empty_len (y :: r)
    show (x ++ "" ++ Str.join "" (y :: r)).length = _
    have e : (("" : String) : Str).cps.toList = [] := by decide +kernel
    rw [len_list, app_list, app_list, e, List.append_nil, List.length_append, ← len_list, ← len_list, List.map_cons, List.sum_cons, ih]
theorem sum_le {l : List Nat} {n : Nat} (h : ∀ x ∈ l, x ≤ n) : l.sum ≤ l.length * n := by
  induction l with
  | nil => exact Nat.zero_le _
  | cons a l ih =>
    have := ih fun x hx => h x (List.mem_cons_of_mem _ hx)
    have := h a List.mem_cons_self
    rw [List.sum_cons, List.length_cons, Nat.succ_mul]
    omega
theorem Tx.join {n m k : Nat} {sep : Str} {l : List Str} (s : Tx m sep) (h : ∀ y ∈ l, Tx n y) (hl : l.length ≤ k) : Tx (k * n + k * m) (Txt.join sep l) := by
  rw [join_str]
  refine ⟨?_, fun c hc => ?_⟩
  · have h1 := join_len sep l
    have h2 : (l.map (·.length)).sum ≤ l.length * n := by
      have := sum_le (l := l.map (·.length)) (n := n) fun x hx => by
        obtain ⟨y, hy, rfl⟩ := List.mem_map.mp hx
        exact (h y hy).len
      rw [List.length_map] at this
      exact this
    have h3 : l.length * n ≤ k * n := Nat.mul_le_mul_right _ hl
    have h4 : l.length * sep.length ≤ k * m := Nat.mul_le_mul hl s.len
    omega
  · rcases join_mem sep hc with h' | ⟨y, hy, h'⟩
    · exact s.asc c h'
    · exact (h y hy).asc c h'
/-! ### all but the pool is kept -/
def Kept (H H' : Hp) (p : Addr) : Prop := BoxAt H' p ∧ ∀ q o, q ≠ p → H q = some o → H' q = some o
theorem Kept.refl {H : Hp} {p : Addr} (b : BoxAt H p) : Kept H H p := ⟨b, fun _ _ _ h => h⟩
theorem Kept.trans {H H1 H2 : Hp} {p : Addr} (a : Kept H H1 p) (b : Kept H1 H2 p) : Kept H H2 p := ⟨b.1, fun q o hq h => b.2 q o hq (a.2 q o hq h)⟩
theorem Kept.box {H H' : Hp} {p : Addr} (k : Kept H H' p) : BoxAt H' p := k.1
theorem Turned.kept {H H' : Hp} {p : Addr} (t : Turned H H' p) : Kept H H' p := ⟨t.1, fun q o hq h => t.at hq h⟩
theorem Kept.new {H H' : Hp} {p l : Addr} {o : HO} (k : Kept H H' p) (h : H' l = none) : Kept H (upd H' l o) p :=
  ⟨k.1.upd h, fun q u hq hu => by rw [upd_ne (ne_of_none (k.2 q u hq hu) h)]; exact k.2 q u hq hu⟩
theorem Kept.turn {H H1 H2 : Hp} {p : Addr} (k : Kept H H1 p) (t : Turned H1 H2 p) : Kept H H2 p := k.trans t.kept
theorem Kept.same {H H1 H2 : Hp} {p : Addr} (k : Kept H H1 p) (s : Same H1 H2) : Kept H H2 p := by
  obtain ⟨⟨a, b, c, h, r⟩, f⟩ := k
  exact ⟨⟨a, b, c, s _ _ h, r⟩, fun q o hq hh => s _ _ (f q o hq hh)⟩
/-- fresh behind is fresh ahead -/
theorem Kept.free {H H' : Hp} {p q : Addr} (k : Kept H H' p) (hb : BoxAt H p) (h : H' q = none) : H q = none := by
  cases e : H q with
  | none => rfl
  | some o =>
    by_cases hq : q = p
    · subst hq
      obtain ⟨_, hh⟩ := k.1.some
      rw [hh] at h
      exact nomatch h
    · rw [k.2 q o hq e] at h
      exact nomatch h
theorem Kept.ne {H : Hp} {p q : Addr} (b : BoxAt H p) (h : H q = none) : q ≠ p := by
  rintro rfl
  obtain ⟨_, hh⟩ := b.some
  rw [hh] at h
  exact nomatch h
theorem Kept.put {H H' : Hp} {p D : Addr} {o : HO} (k : Kept H H' p) (hb : BoxAt H p) (h : H D = none) : Kept H (upd H' D o) p := by
  have hne : D ≠ p := Kept.ne hb h
  obtain ⟨⟨a, b, c, hh, r⟩, f⟩ := k
  exact ⟨⟨a, b, c, by rw [upd_ne hne.symm]; exact hh, r⟩, fun q u hq hu => by rw [upd_ne (ne_of_none hu h)]; exact f q u hq hu⟩
/-- no test: the turn gives -/
theorem yes_go {σ : L2.St} {H : Hp} {A B : Hp → Prop} (h : A H) : tYes σ H (fun b H' => if b = true then A H' else B H') := by
  show if true = true then A H else B H
  exact iteT h
/-! a word between a statement and what follows -/
def tMid (t u : TS) : TS := fun D σ H => ∃ M : L2.St → Hp → Prop, t { D with nx := M } σ H ∧ ∀ σ' H', M σ' H' → u D σ' H'
theorem pss_mid {X : Cx} {st : Stmt} {rest : List Stmt} {t u : TS} (h1 : PS X st t) (h2 : PSs X rest u) : PSs X (st :: rest) (tMid t u) := by
  refine ⟨fun pins s σ H D I ⟨M, hm, hu⟩ => ?_⟩
  refine wpAny_execs_cons (thn (h1.run pins s σ H { D with nx := M } I hm) fun f s1 q => ?_)
  match f, q with
  | .next, ⟨σ', H', I', q⟩ => exact h2.run pins s1 σ' H' D I' (hu σ' H' q)
  | .ret _, q => exact q
  | .brk, q => exact q
  | .cont, q => exact q
end Gd

namespace Gd
open PySem L2
/-- a list of signs == [] -/
theorem signs_nil {K : PySem.W.Frag} {H : Hp} {D D2 : Addr} {bs : List Nat} (h1 : H D = some (.lst (bs.map fun c => V.str ⟨#[c]⟩))) (h2 : H D2 = some (.lst [])) (asc : ∀ c ∈ bs, c < 128) {Q : VK} (q : Q (.bl bs.isEmpty) H) : rEqD K (.ref D) (.ref D2) H Q := by
  have dp : ∀ l : List Nat, DpAll K H (l.map fun c => V.str ⟨#[c]⟩) (l.map fun c => PyData.str ⟨#[c]⟩) := by
    intro l
    induction l with
    | nil => exact .nil
    | cons c l ih => exact .cons (.str _) ih
  have shp : ∀ l : List Nat, (∀ c ∈ l, c < 128) → SeqAt.shaped (.list (l.map fun c => PyData.str ⟨#[c]⟩)) = true := by
    intro l hl
    unfold SeqAt.shaped
    have h1 : ∀ l : List Nat, (∀ c ∈ l, c < 128) → PyData.canLayAll0 (l.map fun c => PyData.str ⟨#[c]⟩) = true := by
      intro l
      induction l with
      | nil => exact fun _ => rfl
      | cons c l ih =>
        intro h
        show (PyData.canLay0 (.str ⟨#[c]⟩) && PyData.canLayAll0 (l.map fun c => PyData.str ⟨#[c]⟩)) = true
        rw [ih fun x hx => h x (List.mem_cons_of_mem _ hx), Bool.and_true]
        show (#[c] : Array Nat).all (· < 0x110000) = true
        have := h c List.mem_cons_self
        simp
        omega
    have h2 : ∀ l : List Nat, PyData.depthAll (l.map fun c => PyData.str ⟨#[c]⟩) = 0 := by
      intro l
      induction l with
      | nil => rfl
      | cons c l ih =>
        show max 0 (PyData.depthAll (l.map fun c => PyData.str ⟨#[c]⟩)) = 0
        rw [ih]
        rfl
    rw [Bool.and_eq_true]
    refine ⟨h1 l hl, decide_eq_true ?_⟩
    show PyData.depthAll (l.map fun c => PyData.str ⟨#[c]⟩) + 1 ≤ 64
    rw [h2]
    decide
  refine ⟨.list (bs.map fun c => PyData.str ⟨#[c]⟩), .list [], .lst (SqL.of h1) (dp bs), .lst (SqL.of h2) .nil, shp bs asc, by decide, ?_⟩
  have eqv : PyData.eqv (.list (bs.map fun c => PyData.str ⟨#[c]⟩)) (.list []) = bs.isEmpty := by
    cases bs <;> rfl
  rw [eqv]
  exact q
/-! ### small letters -/
def low (c : Nat) : Bool := decide (97 ≤ c) && decide (c ≤ 122)
theorem low_fst (c : Nat) : (!decide ((({ cps := #[c] } : Str)).cps.toList < (("a" : String) : Str).cps.toList)) = decide (97 ≤ c) := by
  show (!decide (([c] : List Nat) < [97])) = _
  rw [lt_sign, ← decide_not]
  exact decide_eq_decide.mpr (by omega)
theorem low_snd (c : Nat) : (!decide ((("z" : String) : Str).cps.toList < (({ cps := #[c] } : Str)).cps.toList)) = decide (c ≤ 122) := by
  show (!decide (([122] : List Nat) < [c])) = _
  rw [lt_sign, ← decide_not]
  exact decide_eq_decide.mpr (by omega)
end Gd

namespace Gd
open PySem PySem.Spec PyProof.Rows L2
theorem repS_same {z : Str} {n : Int} (h : n = 1 ∨ z.length = 0) : repS z n = z := by
  refine str_ext ?_
  rw [repS_list]
  rcases h with rfl | h
  · show (List.replicate 1 z.cps.toList).flatten = _
    simp
  · have e : z.cps.toList = [] := by
      rw [← List.length_eq_zero_iff, ← len_list]
      exact h
    rw [e]
    simp
theorem Tx.reps {m : Nat} {x : Str} (t : Tx m x) (n : Int) : Tx (n.toNat * m) (repS x n) := by
  refine ⟨?_, fun c hc => ?_⟩
  · rw [len_list, repS_list, List.length_flatten, List.map_replicate]
    have h1 := sum_le (l := List.replicate n.toNat x.cps.toList.length) (n := m) fun k hk => by
      rw [(List.mem_replicate.mp hk).2, ← len_list]
      exact t.len
    rw [List.length_replicate] at h1
    exact h1
  · rw [repS_list] at hc
    obtain ⟨l, hl, hc⟩ := List.mem_flatten.mp hc
    rw [(List.mem_replicate.mp hl).2] at hc
    exact t.asc c hc
section
variable {X : Cx}
theorem op_repA : OpR X (binaryOp .Mult) (fun x y H Q => ∃ z n, x = .str z ∧ y = .int n ∧ 1 ≤ n ∧ n < 1000000 ∧ z.length * n.toNat ≤ sizeLine ∧ Q (.str (repS z n)) H) := by
  intro pins s σ H x y v u Q I rx ry h
  obtain ⟨z, n, rfl, rfl, h1, h2, hz, q⟩ := h
  by_cases hs : n = 1 ∨ z.length = 0
  · rw [repS_same hs] at q
    obtain ⟨t, rfl⟩ := rx
    obtain ⟨t', rfl⟩ := ry
    have e1 : (n == 1 || z.length == 0) = true := by
      rw [Bool.or_eq_true]
      rcases hs with h | h
      · exact .inl (beq_iff_eq.mpr h)
      · exact .inr (beq_iff_eq.mpr h)
    have hb : ¬ (z.length : Int) > (2 ^ 63 - 1) / n := by
      intro c
      have hs := hz
      rw [sizeLine_eq] at hs
      have h3 : (z.length : Int) * n ≤ 16777216 := by
        have h4 : ((z.length * n.toNat : Nat) : Int) ≤ 16777216 := Int.ofNat_le.mpr hs
        rw [Int.natCast_mul, Int.toNat_of_nonneg (by omega)] at h4
        exact h4
      have h5 : (z.length : Int) ≤ 16777216 := by
        have h6 : (0 : Int) ≤ z.length := by omega
        have h7 : (z.length : Int) * 1 ≤ (z.length : Int) * n := Int.mul_le_mul_of_nonneg_left (by omega) (by omega)
        omega
      have h8 : (2 ^ 63 - 1 : Int) / n ≥ (2 ^ 63 - 1) / 1000000 := by
        have : (2 ^ 63 - 1 : Int) / 1000000 * n ≤ (2 ^ 63 - 1) := by
          have h9 : (2 ^ 63 - 1 : Int) / 1000000 = 9223372036854 := by decide
          rw [h9]
          omega
        exact (Int.le_ediv_iff_mul_le (by omega)).mpr this
      have h10 : (2 ^ 63 - 1 : Int) / 1000000 = 9223372036854 := by decide
      omega
    refine PySem.P.mul_str (by rw [Bool.or_eq_false_iff]; exact ⟨decide_eq_false (by omega), decide_eq_false (by omega)⟩) (fun _ _ => hb) (fun _ _ => ?_) ?_
    · unfold Builtin.Str.tooLong
      exact decide_eq_false (by omega)
    · rw [if_neg (by omega), if_pos e1]
      first
        | exact ⟨.str z, H, I, ⟨t, rfl⟩, q⟩
        | (unfold Made.post; exact ⟨.str z, H, I, ⟨t, rfl⟩, q⟩)
  · refine op_repS pins s σ H _ _ v u Q I rx ry ⟨z, n, rfl, rfl, ?_, h2, fun z => hs (.inr z), hz, q⟩
    have : n ≠ 1 := fun z => hs (.inl z)
    omega
end
end Gd

namespace Gd
open PySem L2
/-! ### what has come since -/
def newer (H H' : Hp) : Hp := fun a => match H a with
  | none => H' a
  | some _ => none
section
variable {H H' H'' : Hp} {a : Addr} {o : HO}
theorem newer_at (h : H a = none) (h' : H' a = some o) : newer H H' a = some o := by
  unfold newer
  rw [h]
  exact h'
theorem newer_of (h : newer H H' a = some o) : H a = none ∧ H' a = some o := by
  unfold newer at h
  cases e : H a with
  | none => rw [e] at h; exact ⟨rfl, h⟩
  | some u => rw [e] at h; exact nomatch h
theorem newer_same : Same (newer H H') H' := fun _ _ h => (newer_of h).2
theorem newer_go (k : ∀ b u, H b = none → H' b = some u → H'' b = some u) : Same (newer H H') (newer H H'') := fun b u h => newer_at (newer_of h).1 (k b u (newer_of h).1 (newer_of h).2)
end
/-! ### data of a depth -/
def Wd : Nat → Nat
  | 0 => 40000
  | n + 1 => 4 * Wd n + 1000
def Item (K : PySem.W.Frag) (G : Hp) (n : Nat) (v : V) : Prop := ∃ d, Da K G v d ∧ Ok1 d ∧ wid d ≤ Wd n ∧ d.depth ≤ n
section
variable {K : PySem.W.Frag} {G G' : Hp} {n : Nat}
theorem Item.same {v : V} (s : Same G G') : Item K G n v → Item K G' n v
  | ⟨d, h, r⟩ => ⟨d, h.same s, r⟩
theorem wd_pos : ∀ n, 1000 ≤ Wd n
  | 0 => by decide
  | n + 1 => by
    show 1000 ≤ 4 * Wd n + 1000
    omega
theorem Item.up {v : V} : Item K G n v → Item K G (n + 1) v
  | ⟨d, h, o, w, p⟩ => ⟨d, h, o, by
    show wid d ≤ 4 * Wd n + 1000
    omega, by omega⟩
theorem items : ∀ {ys : List V}, (∀ y ∈ ys, Item K G n y) → ∃ ds, DaL K G ys ds ∧ OkL ds ∧ widL ds ≤ ys.length * (Wd n + 2) ∧ PyData.depthAll ds ≤ n
  | [], _ => ⟨[], .nil, trivial, Nat.zero_le _, Nat.zero_le _⟩
  | y :: ys, h => by
    obtain ⟨d, h1, h2, h3, h4⟩ := h y List.mem_cons_self
    obtain ⟨ds, g1, g2, g3, g4⟩ := items (ys := ys) fun x hx => h x (List.mem_cons_of_mem _ hx)
    refine ⟨d :: ds, .cons h1 g1, ⟨h2, g2⟩, ?_, ?_⟩
    · show wid d + 2 + widL ds ≤ (ys.length + 1) * (Wd n + 2)
      rw [Nat.succ_mul]
      omega
    · show max d.depth (PyData.depthAll ds) ≤ n
      omega
theorem three {ys : List V} (hl : ys.length ≤ 3) : ys.length * (Wd n + 2) ≤ 3 * (Wd n + 2) := Nat.mul_le_mul_right _ hl
theorem item_lst {a : Addr} {ys : List V} (h : G a = some (.lst ys)) (hl : ys.length ≤ 3) (hy : ∀ y ∈ ys, Item K G n y) : Item K G (n + 1) (.ref a) := by
  obtain ⟨ds, g1, g2, g3, g4⟩ := items hy
  have := three (n := n) hl
  exact ⟨.list ds, .lst h g1, g2, by show widL ds + 2 ≤ 4 * Wd n + 1000; have := wd_pos n; omega, by show PyData.depthAll ds + 1 ≤ n + 1; omega⟩
theorem item_tup {a : Addr} {ys : List V} (h : G a = some (.tup ys)) (hl : ys.length ≤ 3) (hy : ∀ y ∈ ys, Item K G n y) : Item K G (n + 1) (.ref a) := by
  obtain ⟨ds, g1, g2, g3, g4⟩ := items hy
  have := three (n := n) hl
  exact ⟨.tuple ds, .tup (SqT.of h) g1, g2, by show widL ds + 3 ≤ 4 * Wd n + 1000; have := wd_pos n; omega, by show PyData.depthAll ds + 1 ≤ n + 1; omega⟩
/-- a small key -/
def SmK : Key → Prop
  | .inl _ => False
  | .inr x => Tx 5 x
theorem pairs : ∀ {kvs : List (Key × V)}, (∀ kv ∈ kvs, SmK kv.1 ∧ Item K G n kv.2) →
    ∃ ds, DaL K G (kvs.map (·.2)) ds ∧ OkK ((kvs.map fun p => kD p.1).zip ds) ∧ widK ((kvs.map fun p => kD p.1).zip ds) ≤ kvs.length * (Wd n + 60) ∧ PyData.depthKv ((kvs.map fun p => kD p.1).zip ds) ≤ n
  | [], _ => ⟨[], .nil, trivial, Nat.zero_le _, Nat.zero_le _⟩
  | kv :: kvs, h => by
    obtain ⟨hk, d, h1, h2, h3, h4⟩ := h kv List.mem_cons_self
    obtain ⟨ds, g1, g2, g3, g4⟩ := pairs (kvs := kvs) fun x hx => h x (List.mem_cons_of_mem _ hx)
    obtain ⟨k, v⟩ := kv
    cases k with
    | inl i => exact hk.elim
    | inr x =>
      have tx : Tx 5 x := hk
      have := tx.len
      refine ⟨d :: ds, .cons h1 g1, ⟨tx.big, h2, g2⟩, ?_, ?_⟩
      · show (10 * x.length + 2) + wid d + 4 + widK ((kvs.map fun p => kD p.1).zip ds) ≤ (kvs.length + 1) * (Wd n + 60)
        have e : (kvs.length + 1) * (Wd n + 60) = kvs.length * (Wd n + 60) + (Wd n + 60) := Nat.succ_mul _ _
        omega
      · show max (max 0 d.depth) (PyData.depthKv ((kvs.map fun p => kD p.1).zip ds)) ≤ n
        omega
theorem item_dct {a : Addr} {kvs : List (Key × V)} (h : G a = some (.dK kvs)) (hl : kvs.length ≤ 3) (hy : ∀ kv ∈ kvs, SmK kv.1 ∧ Item K G n kv.2) : Item K G (n + 1) (.ref a) := by
  obtain ⟨ds, g1, g2, g3, g4⟩ := pairs hy
  have : kvs.length * (Wd n + 60) ≤ 3 * (Wd n + 60) := Nat.mul_le_mul_right _ hl
  exact ⟨.dict _, .dct h g1, g2, by show widK _ + 2 ≤ 4 * Wd n + 1000; have := wd_pos n; omega, by show PyData.depthKv _ + 1 ≤ n + 1; omega⟩
end
theorem put_all {P : Key → Prop} {R : V → Prop} {acc : List (Key × V)} {k : Key} {v : V} (h : ∀ kv ∈ acc, P kv.1 ∧ R kv.2) (hk : P k) (hv : R v) : ∀ kv ∈ putK acc k v, P kv.1 ∧ R kv.2 := by
  intro kv hm
  unfold putK at hm
  split at hm
  · obtain ⟨u, hu, rfl⟩ := List.mem_map.mp hm
    split
    · exact ⟨(h u hu).1, hv⟩
    · exact h u hu
  · rcases List.mem_append.mp hm with e | e
    · exact h kv e
    · have : kv = (k, v) := by simpa using e
      rw [this]
      exact ⟨hk, hv⟩
theorem merge_all {P : Key → Prop} {R : V → Prop} : ∀ {more acc : List (Key × V)}, (∀ kv ∈ acc, P kv.1 ∧ R kv.2) → (∀ kv ∈ more, P kv.1 ∧ R kv.2) → ∀ kv ∈ mergeK acc more, P kv.1 ∧ R kv.2
  | [], acc, h, _ => h
  | m :: r, acc, h, hm => by
    show ∀ kv ∈ mergeK (putK acc m.1 m.2) r, _
    have := hm m List.mem_cons_self
    exact merge_all (put_all h this.1 this.2) fun x hx => hm x (List.mem_cons_of_mem _ hx)
theorem key_small {i : Nat} (h : i < 4) : Tx 5 (((toString ((i : Nat) : Int) : String)) : Str) := by
  have : i = 0 ∨ i = 1 ∨ i = 2 ∨ i = 3 := by omega
  rcases this with rfl | rfl | rfl | rfl <;> exact .of (by decide +kernel)
end Gd

/-! own rules: a set made of a list of texts, and its members in order -/
namespace Gd
open PySem PySem.Spec PyProof.Rows L2
/-- what one more text makes of the members -/
def addW (l : List Str) (k : Str) : List Str := if k ∈ l then l else k :: l
/-- the members of a list of texts -/
def memW (xs : List Str) : List Str := xs.foldl addW []
theorem addW_mem {l : List Str} {k x : Str} : x ∈ addW l k ↔ x = k ∨ x ∈ l := by
  unfold addW
  by_cases c : k ∈ l
  · rw [if_pos c]
    exact ⟨.inr, fun h => h.elim (fun e => e ▸ c) id⟩
  · rw [if_neg c]
    exact List.mem_cons
theorem addW_nd {l : List Str} {k : Str} (h : l.Nodup) : (addW l k).Nodup := by
  unfold addW
  by_cases c : k ∈ l
  · rw [if_pos c]
    exact h
  · rw [if_neg c]
    exact List.nodup_cons.mpr ⟨c, h⟩
theorem addW_len (l : List Str) (k : Str) : (addW l k).length ≤ l.length + 1 := by
  unfold addW
  split
  · omega
  · exact Nat.le_refl _
theorem foldW_mem : ∀ (xs l : List Str) (x : Str), x ∈ xs.foldl addW l ↔ x ∈ l ∨ x ∈ xs
  | [], l, x => ⟨.inl, fun h => h.elim id (fun z => nomatch z)⟩
  | y :: xs, l, x => by
    rw [List.foldl_cons, foldW_mem xs (addW l y) x, addW_mem, List.mem_cons]
    constructor
    · rintro ((h | h) | h)
      · exact .inr (.inl h)
      · exact .inl h
      · exact .inr (.inr h)
    · rintro (h | h | h)
      · exact .inl (.inr h)
      · exact .inl (.inl h)
      · exact .inr h
theorem memW_mem {xs : List Str} {x : Str} : x ∈ memW xs ↔ x ∈ xs := (foldW_mem xs [] x).trans ⟨fun h => h.elim (fun z => nomatch z) id, .inr⟩
theorem foldW_nd : ∀ (xs l : List Str), l.Nodup → (xs.foldl addW l).Nodup
  | [], _, h => h
  | y :: xs, l, h => foldW_nd xs (addW l y) (addW_nd h)
theorem memW_nd (xs : List Str) : (memW xs).Nodup := foldW_nd xs [] List.nodup_nil
theorem foldW_len : ∀ (xs l : List Str), (xs.foldl addW l).length ≤ l.length + xs.length
  | [], l => Nat.le_refl _
  | y :: xs, l => by
    have h1 := foldW_len xs (addW l y)
    have h2 := addW_len l y
    rw [List.foldl_cons, List.length_cons]
    omega
theorem memW_len (xs : List Str) : (memW xs).length ≤ xs.length := by
  have h := foldW_len xs []
  rw [List.length_nil] at h
  unfold memW
  omega
theorem memW_snoc (xs : List Str) (k : Str) : memW (xs ++ [k]) = addW (memW xs) k := by
  unfold memW
  rw [List.foldl_append]
  rfl
abbrev byText (w : World) : Bool := w.params.followText "set-order"
/-- the set of texts at a, as the model lays it; it can be walked -/
def SetT (P : Program) (w : World) (h : Heap) (a : Addr) (l : List Str) : Prop :=
  ∃ D : Froz.SD, h.get? a = some (Froz.sObj "set" D) ∧ Froz.TxOk P w D l ∧ l.Nodup ∧ Ris D.2.2.place.toList ∧ (byText w = true ∨ D.2.2.led = true)
section
variable {P : Program} {w : World} {A : Around} {E : Value → Shared → Prop} {s : Shared} {a : Addr} {l : List Str}
theorem SetT.keep {h h' : Heap} (S : SetT P w h a l) (k : ∀ o, h.get? a = some o → h'.get? a = some o) : SetT P w h' a l := by
  obtain ⟨D, d1, d2⟩ := S
  exact ⟨D, k _ d1, d2⟩
theorem tail_ris (ep : Nat) (es : Array (Int × Value)) (t : SetTable) (b : Bool) (r : Ris t.place.toList) : Ris (Froz.tailTx ep es t b).2.2.place.toList ∧ (Froz.tailTx ep es t b).2.2.led = t.led := by
  unfold Froz.tailTx
  split
  · exact ⟨relayAll_ris t es _, relayAll_led t es _⟩
  · exact ⟨r, rfl⟩
theorem add_ris {D : Froz.SD} (h : Int) (v : Value) (r : Ris D.2.2.place.toList) : Ris (Froz.addTx h v D).2.2.place.toList ∧ (Froz.addTx h v D).2.2.led = D.2.2.led := by
  have r1 := layNew_ris D.2.2 D.1 h v r
  have r2 := layNew_led D.2.2 D.1 h v
  unfold Froz.addTx
  have r3 : Ris (if (layNew D.2.2 D.1 h v).2.1.plain = true then { (layNew D.2.2 D.1 h v).2.1 with plain := false } else (layNew D.2.2 D.1 h v).2.1).place.toList := by split <;> exact r1
  have r4 : (if (layNew D.2.2 D.1 h v).2.1.plain = true then { (layNew D.2.2 D.1 h v).2.1 with plain := false } else (layNew D.2.2 D.1 h v).2.1).led = D.2.2.led := by split <;> exact r2
  have q := tail_ris D.2.1 (layNew D.2.2 D.1 h v).1 _ (layNew D.2.2 D.1 h v).2.2.1 r3
  exact ⟨q.1, q.2.trans r4⟩
/-- a text that is there already -/
theorem old_x {D : Froz.SD} {k : Str} {u : Tok} {Q : Bool → Shared → Prop} (ho : s.heap.get? a = some (Froz.sObj "set" D)) (F : Froz.TxOk P w D l) (hk : k ∈ l) (hb : l.length < scanBound) (h : Q false s) :
    wpAny (model P w) A (setAddHashed a (.str k u) (hashStr w k)) Q E s := by
  have here := Froz.is_str (P := P) (w := w) k u
  have few : D.1.size < scanBound := F.sz.symm ▸ hb
  obtain ⟨e, he, heq⟩ := (F.mem k).mp hk
  have found : ∃ j, List.findIdx? (fun z => (PySem.strKind P w).is k z.2) D.1.toList = some j := by
    cases c : List.findIdx? (fun z => (PySem.strKind P w).is k z.2) D.1.toList with
    | some j => exact ⟨j, rfl⟩
    | none =>
      have no := List.findIdx?_eq_none_iff.mp c e he
      rw [heq] at no
      exact nomatch no
  obtain ⟨j, hj⟩ := found
  unfold setAddHashed
  unfold setAddHashedIn
  apply wpAny_holding
  apply wpAny_bind
  apply wpAny_setState_of ho rfl F.fit
  dsimp only
  rw [byScan_of (knd := PySem.strKind P w) rfl few F.el, if_pos rfl]
  unfold setAddByScan
  apply wpAny_bind
  apply wpAny_bind
  apply wpAny_rule
  apply wpAny_bind
  refine wpAny_setScan_of (knd := PySem.strKind P w) here ho rfl F.fit F.el ?_
  rw [hj]
  exact wpAny_pure (wpAny_pure h)
theorem setT_add {k : Str} {u : Tok} {Q : Bool → Shared → Prop} (S : SetT P w s.heap a l) (room : l.length + 1 < scanBound)
    (h : ∀ h', Heap.SameBut a s.heap h' → SetT P w h' a (addW l k) → ∀ b, Q b { s with heap := h' }) : wpAny (model P w) A (setAddHashed a (.str k u) (hashStr w k)) Q E s := by
  obtain ⟨D, d1, d2, d3, d4, d5⟩ := S
  by_cases c : k ∈ l
  · refine old_x d1 d2 c (by omega) (h s.heap (Heap.SameBut.refl a s.heap) ⟨D, d1, ?_, ?_, d4, d5⟩ false)
    · unfold addW
      rw [if_pos c]
      exact d2
    · exact addW_nd d3
  · obtain ⟨r1, r2⟩ := add_ris (hashStr w k) (.str k u) d4
    refine Froz.add_x d1 d2 c room (h _ (Heap.SameBut.update ..) ⟨_, Froz.get_upd _ d1 rfl, ?_, addW_nd d3, r1, by rw [r2]; exact d5⟩ true)
    unfold addW
    rw [if_neg c]
    exact Froz.add_ok u d2
/-- the walk that adds -/
theorem loopT {I : Addr} {fp wr : List Addr} {G : Array GenState → Array GenState → Prop} {n : Nat} {Pv : Nat → Value → Prop} {St : Nat → Shared → Prop} {R : Result → Shared → Prop} (W : WalksS P w A.in1 I fp wr G n Pv St)
    (hfp : a ∉ fp) (xs : List Str) (hn : xs.length = n) (hval : ∀ i v, Pv i v → ∃ t, v = .str (xs.getD i Str.empty) t) (hb : n + 1 < scanBound) :
    ∀ (m i : Nat) (s : Shared), i + m = n → St i s → SetT P w s.heap a (memW (xs.take i)) →
      (∀ s', Moved (a :: wr) G s s' → SetT P w s'.heap a (memW xs) → R (.ok (.ret .none)) s') → codeAny (model P w) A (.builtin "set.update.loop" ⟨[.ref a, .ref I], []⟩) R s := by
  have awr : a ∉ wr := fun z => hfp (W.sub _ z)
  have more : ∀ b ∈ wr, b ∈ a :: wr := fun _ z => .tail _ z
  intro m
  induction m with
  | zero =>
    intro i s e st S q
    have e : i = n := e
    subst e
    rw [List.take_of_length_le (Nat.le_of_eq hn)] at S
    apply codeAny_builtin PyProof.Rows.F.entry_set_update_loop
    rw [Around.under_plainId PyProof.Rows.F.plain_set_update_loop]
    show wpAny _ A.in1 (pyNext (.ref I) >>= _) _ _ s
    apply wpAny_bind
    refine W.done s _ _ st fun s' mv => ?_
    show wpAny _ A.in1 (ret Value.none) _ _ s'
    exact wpAny_pure (q s' (mv.mono more) (S.keep fun o z => mv.heap a o awr z))
  | succ m ih =>
    intro i s e st S q
    have lt : i < n := by omega
    apply codeAny_builtin PyProof.Rows.F.entry_set_update_loop
    rw [Around.under_plainId PyProof.Rows.F.plain_set_update_loop]
    show wpAny _ A.in1 (pyNext (.ref I) >>= _) _ _ s
    apply wpAny_bind
    refine W.item i s _ _ lt st fun v s' hv st' mv => ?_
    obtain ⟨t, rfl⟩ := hval i v hv
    have S' := S.keep (h' := s'.heap) fun o z => mv.heap a o awr z
    have roomy : (memW (xs.take i)).length + 1 < scanBound := by
      have h1 := memW_len (xs.take i)
      rw [List.length_take] at h1
      omega
    have grows : memW (xs.take (i + 1)) = addW (memW (xs.take i)) (xs.getD i Str.empty) := by
      have hi : i < xs.length := by omega
      rw [← memW_snoc, List.take_succ, List.getD_eq_getElem?_getD, List.getElem?_eq_getElem hi]
      rfl
    show wpAny _ A.in1 (holding [Value.str (xs.getD i Str.empty) t] (setAdd a (.str (xs.getD i Str.empty) t)) >>= _) _ _ s'
    apply wpAny_bind
    apply wpAny_holding
    unfold setAdd
    apply wpAny_holding
    apply wpAny_bind
    apply (PySem.strKind P w).pyHash (Froz.is_str (xs.getD i Str.empty) t)
    refine setT_add (s := { s' with toks := s'.toks + 1 }) S' roomy fun h' sb S2 b => ?_
    rw [← grows] at S2
    refine wpAny_pure ⟨plainId_quiet PyProof.Rows.F.plain_set_update_loop _, ih (i + 1) _ (by omega) ?_ S2 fun s2 mv2 S3 => q s2 (Moved.trans W.gtrans ((mv.mono more).then_heap (Nat.le_succ _) fun c o hc z => ?_) mv2) S3⟩
    · refine W.frame _ s' _ _ st' (Nat.le_succ _) fun c hc o z => ?_
      rw [sb.2 c (fun y => hfp (y ▸ hc))]
      exact z
    · rw [sb.2 c (fun y => hc (y ▸ .head _))]
      exact z
end
end Gd

namespace Gd
open PySem PySem.Spec PyProof.Rows L2
/-- the set before its first text -/
def bare (w : World) : Obj := { cls := .type "set", dict := none, data := .set #[] 0 (.fresh 0 0 (!byText w)) }
section
variable {P : Program} {w : World} {A : Around} {E : Value → Shared → Prop} {s : Shared}
theorem bare_T {h : Heap} {a : Addr} (e : h.get? a = some (bare w)) : SetT P w h a [] := by
  refine ⟨(#[], 0, .fresh 0 0 (!byText w)), e, Froz.TxOk.nil rfl, List.nodup_nil, List.Pairwise.nil, ?_⟩
  show byText w = true ∨ (!byText w) = true
  cases byText w
  · exact .inr rfl
  · exact .inl rfl
theorem made_T (v : Value) {Q : Value → Shared → Prop} (h : Q (.ref s.heap.objs.size) { s with heap := s.heap.push (bare w) }) :
    codeAny (model P w) A (.call (.builtin "set.__new__") ⟨[.type "set", v], []⟩) (wants Q E) s := by
  apply codeAny_of_tree
  show wpAny _ A.in1 (do checkBuiltinCall "set.__new__" ⟨[.type "set", v], []⟩; again (.builtin "set.__new__" ⟨[.type "set", v], []⟩)) _ _ s
  apply wpAny_bind
  refine wpAny_of_eq (PySem.F.newCall_set_1 v) (wpAny_pure ⟨plainId_quiet PySem.F.plain_set_new _, codeAny_builtin PySem.F.entry_set_new ?_⟩)
  rw [Around.under_plainId PySem.F.plain_set_new]
  unfold Builtin.«set.__new__»
  unfold Builtin.Frozenset.newClass
  have self := sub_set_self
  cases s with
  | mk hp g d tk os =>
    dsimp only
    wp_walk
    apply wpAny_askSetting
    apply wpAny_pure
    dsimp only
    simp only [newObj]
    apply wpAny_bind
    exact wpAny_alloc (wpAny_pure (wpAny_pure h))
/-- set(xs), xs a list of texts -/
theorem set_T {b : Addr} {items : Array Value} {xs : List Str} {Q : Value → Shared → Prop} (hd : A.handled = none) (hl : s.heap.IsList b items) (hx : StrsAre items.toList xs) (hb : xs.length + 1 < scanBound)
    (h : ∀ (h' : Heap) (tk : Nat), SetT P w h' s.heap.objs.size (memW xs) → (∀ c o, s.heap.get? c = some o → h'.get? c = some o) → Q (.ref s.heap.objs.size) { s with heap := h', toks := tk }) :
    wpAny (model P w) A (call (.type "set") [.ref b]) Q E s := by
  obtain ⟨c0, c1, c2⟩ := PySem.F.called_set.mro
  have c3 := PySem.F.called_set.made
  have c4 := PySem.F.called_set.sub
  have c5 := PySem.F.called_set.notType
  have c6 := PySem.F.called_set.canCreate
  have c7 := PySem.F.typeCall_set_1 (.ref b)
  apply wpAny_call
  apply codeAny_of_tree
  show wpAny _ _ (callAny (.type "set") _) _ _ _
  refine wpAny_pure ⟨Code.quiet_builtin _ (by decide +kernel), ?_⟩
  apply codeAny_builtin PySem.F.entry_type_call
  rw [Around.under_plain (weight_type_call_type "set" [.ref b] []) rfl]
  repeat (any_goals (first | assumption | wp_step))
  refine codeAny_mono (made_T (.ref b) (E := E) (Q := fun v s1 => v = .ref s.heap.objs.size ∧ s1 = { s with heap := s.heap.push (bare w) }) ⟨rfl, rfl⟩) fun r s1 hr => ?_
  rcases r with e | fl
  · exact hr
  rcases fl with _ | v | _ | _
  case ret =>
    obtain ⟨rfl, rfl⟩ := hr
    have born : (s.heap.push (bare w)).get? s.heap.objs.size = some (bare w) := Heap.get?_push_size _ rfl
    have kind : Shared.TypeIs { s with heap := s.heap.push (bare w) } (.ref s.heap.objs.size) "set" := ⟨_, born, rfl⟩
    have c8 := PySem.F.called_set.init.lookup
    have c9 := PySem.F.called_set.init.bind (.ref s.heap.objs.size)
    repeat (any_goals (first | assumption | wp_step))
    refine codeAny_mono (codeAny_call_builtin (R := wants (fun r s2 => r = .none ∧ ∃ h' tk, s2 = { s with heap := h', toks := tk } ∧ SetT P w h' s.heap.objs.size (memW xs) ∧ ∀ c o, s.heap.get? c = some o → h'.get? c = some o) E)
      PySem.F.called_set.init.plain PySem.F.entry_set_init (check_set_init_1 kind ?_)) fun r2 s2 hr2 => ?_
    · obtain ⟨⟨k0, k1, k2, k3⟩, hol, k4, nl, k5⟩ := hl
      simp only at k4 k5
      subst k4 k5
      have e1 := PySem.F.sub_list_set
      have e2 := PySem.F.sub_list_frozenset
      have e3 : (Value.type "list" == Value.type "dict") = false := by decide
      have there : (s.heap.push (bare w)).get? b = some { cls := .type "list", dict := k1, data := .seq items nl, slots := k3 } := Heap.get?_push_of_some _ hol
      have lst : (s.heap.push (bare w)).IsList b items := ⟨_, there, rfl, nl, rfl⟩
      unfold Builtin.«set.__init__» noKeywords Builtin.Frozenset.updateFrom
      generalize hold : pyIter = held
      wp_walk
      subst hold
      apply wpAny_pyIter_list lst
      apply wpAny_bind
      apply wpAny_runValue
      have bs : b < s.heap.objs.size := Heap.lt_size hol
      have free : A.in1.in1.in1.handled = none := by simp [hd]
      have size1 : (s.heap.push (bare w)).objs.size = s.heap.objs.size + 1 := Heap.size_push _ _
      have bI : b ≠ (s.heap.push (bare w)).objs.size := by rw [size1]; exact Nat.ne_of_lt (Nat.lt_succ_of_lt bs)
      have alone : s.heap.objs.size ∉ [(s.heap.push (bare w)).objs.size, b] := by
        rw [size1]
        intro z
        rcases List.mem_cons.mp z with y | y
        · exact Nat.ne_of_lt (Nat.lt_succ_self _) y
        · exact Nat.ne_of_gt bs (List.mem_singleton.mp y)
      have len : xs.length = items.size := by rw [← StrsAre.len_eq hx, Array.length_toList]
      refine loopT ((Walks.list free _ b bI items).toS) alone xs len (fun i v hv => SS.strs_at hx i v (by rw [Array.getElem?_toList]; exact hv)) (by omega) items.size 0 _ (by omega) ⟨⟨_, Heap.get?_push_size _ rfl, rfl, rfl⟩, lst.push _⟩ (bare_T (Heap.get?_push_of_some _ born)) fun s' mv S => ?_
      have m1 := mv.gens
      have m2 := mv.drawn
      have m3 := mv.os
      have m4 := mv.heap
      cases s' with
      | mk h' g' d' tk' os' =>
        have m1 : g' = s.gens := m1
        have m2 : d' = s.drawn := m2
        have m3 : os' = s.os := m3
        subst m1 m2 m3
        apply wpAny_pure
        show wpAny _ _ (ret Value.none) _ _ _
        refine wpAny_pure ⟨rfl, h', tk', rfl, S, fun c o z => ?_⟩
        have cs : c < s.heap.objs.size := Heap.lt_size z
        refine m4 c o (fun y => ?_) (Heap.get?_push_of_some _ (Heap.get?_push_of_some _ z))
        rcases List.mem_cons.mp y with y | y
        · exact Nat.ne_of_lt cs y
        · have y := List.mem_singleton.mp y
          rw [size1] at y
          exact Nat.ne_of_lt (Nat.lt_succ_of_lt cs) y
    · rcases r2 with e | fl
      · exact hr2
      rcases fl with _ | v | _ | _
      case ret =>
        obtain ⟨rfl, h', tk, rfl, S, k⟩ := hr2
        repeat (any_goals (first | assumption | wp_step))
        exact h h' tk S k
      all_goals exact hr2.elim
  all_goals exact hr.elim
end
end Gd

namespace Gd
open PySem PySem.Spec PyProof.Rows L2
/-- a list of texts that strictly rises -/
def upW (ys : List Str) : Prop := sortedS ys = true ∧ ys.Nodup
section
variable {P : Program} {w : World} {A : Around} {E : Value → Shared → Prop} {s : Shared} {a : Addr} {l : List Str}
theorem txt_entry {D : Froz.SD} (F : Froz.TxOk P w D l) {e : Int × Value} (he : e ∈ D.1.toList) : ∃ x t, e.2 = .str x t ∧ x ∈ l := by
  obtain ⟨⟨x, h1, _⟩, _⟩ := F.el e he
  obtain ⟨t, ht⟩ := Value.isStrOf_shape (x := x) (v := e.2) h1
  exact ⟨x, t, ht, (F.mem x).mpr ⟨e, he, h1⟩⟩
theorem nodup_of_len : ∀ {l m : List Str}, l.Nodup → (∀ x ∈ l, x ∈ m) → m.length ≤ l.length → l.Perm m
  | [], m, _, _, h => by
    have : m = [] := List.eq_nil_of_length_eq_zero (Nat.le_zero.mp h)
    rw [this]
  | x :: l, m, nd, sub, h => by
    obtain ⟨n1, n2⟩ := List.nodup_cons.mp nd
    have hx := sub x (.head _)
    have p := List.perm_cons_erase hx
    refine List.Perm.trans (.cons x (nodup_of_len (m := m.erase x) n2 (fun y hy => ?_) ?_)) p.symm
    · have ne : y ≠ x := fun z => n1 (by rw [← z]; exact hy)
      exact (List.mem_erase_of_ne ne).mpr (sub y (.tail _ hy))
    · have := p.length_eq
      rw [List.length_cons] at this h
      omega
/-- the texts of the entries are the members -/
theorem txt_perm {D : Froz.SD} (F : Froz.TxOk P w D l) (nd : l.Nodup) : l.Perm ((D.1.toList.map (·.2)).map strOf) := by
  refine nodup_of_len nd (fun x hx => ?_) ?_
  · obtain ⟨e, he, q⟩ := (F.mem x).mp hx
    obtain ⟨t, ht⟩ := Value.isStrOf_shape (x := x) (v := e.2) q
    refine List.mem_map.mpr ⟨e.2, List.mem_map.mpr ⟨e, he, rfl⟩, ?_⟩
    rw [ht]
    rfl
  · rw [List.length_map, List.length_map, Array.length_toList, F.sz]
    exact Nat.le_refl _
theorem sorted_T {Q : Value → Shared → Prop} (S : SetT P w s.heap a l) (hd : A.handled = none) (h64 : l.length < 64)
    (h : ∀ s' p (out : Array Value) (c : Nat) (ys : List Str), (∀ b o, s.heap.get? b = some o → s'.heap.get? b = some o) → s'.gens = s.gens → s'.os = s.os → s.heap.objs.size ≤ p →
      s'.heap.get? p = some (seqObj "list" out c) → StrsAre out.toList ys → ys.Perm l → sortedS ys = true → Q (.ref p) s') :
    wpAny (model P w) A (call (.builtin "sorted") [.ref a]) Q E s := by
  obtain ⟨⟨es, ep, t⟩, d1, F, nd, d4, d5⟩ := S
  have fit : t.fits es.size = true := F.fit
  have size : es.size = l.length := F.sz
  apply Calls.call_function_entry kind_sorted plain_sorted entry_sorted (args_sorted1 _)
  unfold Builtin.«sorted»
  apply wpAny_bind (m := checkCount "sorted" 1 1 _)
  apply wpAny_pure
  apply wpAny_bind
  refine collect_set (A := A.in1) hd ⟨_, d1, rfl, rfl⟩ fit (by show es.size < scanBound; unfold scanBound; omega) d4 d5 fun s1 vs k1 z1 g1 o1 pm => ?_
  have vlen : vs.length = l.length := by rw [pm.length_eq, List.length_map, Array.length_toList, size]
  have txts : StrsAre vs (vs.map strOf) := strsAre_map vs fun v hv => by
    obtain ⟨e, he, q⟩ := List.mem_map.mp (pm.mem_iff.mp hv)
    obtain ⟨x, u, hu, _⟩ := txt_entry F he
    exact ⟨x, u, by rw [← q]; exact hu⟩
  have perm : (vs.map strOf).Perm l := (pm.map strOf).trans (txt_perm F nd).symm
  apply wpAny_bind
  refine wpAny_newList ?_ (by rw [vlen, sizeLine_eq]; omega)
  have born : (s1.heap.push (seqObj "list" vs.toArray 0)).get? s1.heap.objs.size = some (seqObj "list" vs.toArray 0) := Heap.get?_push_size _ rfl
  apply wpAny_bind
  apply wpAny_holding
  refine wpAny_call_entry slot_list_sort ⟨_, born, rfl⟩ entry_list_sort (list_sort_treeK strKind_oneLt born txts.keysOf (fun v1 v2 r e => keyKind_strs (by rw [← e]; exact txts)) (by rw [vlen]; exact h64) fun st a1 a2 => ?_) (args_list_sort _)
  obtain ⟨ys, b1, b2, b3⟩ := sorted_out_str txts a1 a2
  obtain ⟨c, hc⟩ := sortedHeap_at (vs := vs) (out := (arrOf st).map (·.2)) born
  refine ⟨_, rfl, wpAny_pure ⟨_, rfl, h _ s1.heap.objs.size _ c ys (fun b u e => ?_) g1 o1 z1 hc b1 (b2.trans perm) b3⟩⟩
  have old := k1 b u e
  have lt := Heap.lt_size old
  show (sortedHeap (s1.heap.push (seqObj "list" vs.toArray 0)) s1.heap.objs.size vs _).get? b = some u
  rw [sortedHeap_old (Nat.ne_of_lt lt) (by rw [size_push']; exact Nat.lt_succ_of_lt lt)]
  exact Heap.get?_push_of_some _ old
end
/-! ### the rules -/
/-- a set of texts in the heap -/
def SetW (P : Program) (w : World) (a : Addr) (l : List Str) : HO := .ext fun h => SetT P w h a l
section
variable {X : Cx}
theorem setW_ok {P : Program} {w : World} {H : Hp} {h : Heap} {a : Addr} {l : List Str} (S : SetT P w h a l) : ObjOk P w H h a (SetW P w a l) := by
  obtain ⟨D, d1, _⟩ := id S
  exact ⟨S, ⟨_, d1⟩, fun _ _ z k => SetT.keep z k⟩
/-- set(a list of texts) -/
def rSetW (P : Program) (w : World) (K : PySem.W.Frag) : List V → Hp → VK → Prop := fun vs H Q => ∃ (b : Addr) (xs : List Str), vs = [V.ref b] ∧ SqL K H b (xs.map V.str) ∧ xs.length + 1 < 4096 ∧ ∀ p, H p = none → Q (.ref p) (upd H p (SetW P w p (memW xs)))
theorem cr_setW (hc : X.calm = true) : CallR X (.type "set") (rSetW X.prog X.w X.K) := by
  intro pins s σ H vs us Q I r h
  obtain ⟨b, xs, rfl, hs, hl, q⟩ := h
  obtain ⟨its, rv, p, _⟩ := I.list hs
  rw [Vals.ref1 r]
  refine set_T (I.ok.hd hc) p.isList rv.strs (by unfold scanBound; omega) fun h' tk S k => ?_
  exact ⟨.ref s.heap.objs.size, upd H s.heap.objs.size (SetW X.prog X.w s.heap.objs.size (memW xs)), I.laid (t' := tk) (fun c o e => k c o e) (Nat.le_refl _) (setW_ok S), rfl, q _ (I.hok.fresh (Nat.le_refl _))⟩
/-- sorted(a set of texts) -/
def rSortW (P : Program) (w : World) : List V → Hp → VK → Prop := fun vs H Q => ∃ (a : Addr) (l : List Str), vs = [V.ref a] ∧ H a = some (SetW P w a l) ∧ l.length < 64 ∧
  ∀ (ys : List Str) (p : Addr), ys.Perm l → sortedS ys = true → H p = none → Q (.ref p) (upd H p (.lst (ys.map V.str)))
theorem cr_sortW (hc : X.calm = true) : CallR X (.builtin "sorted") (rSortW X.prog X.w) := by
  intro pins s σ H vs us Q I r h
  obtain ⟨a, l, rfl, ha, h64, q⟩ := h
  have S : SetT X.prog X.w s.heap a l := (I.hok a _ ha).1
  rw [Vals.ref1 r]
  refine sorted_T S (I.ok.hd hc) h64 fun s' p out c ys k g o hp hg hy hperm hsort => ?_
  have few : (ys.map V.str).length ≤ sizeLine := by rw [List.length_map, hperm.length_eq, sizeLine_eq]; omega
  have hn : H p = none := I.hok.fresh hp
  exact ⟨.ref p, upd H p (.lst (ys.map V.str)), I.call' (ch := []) o (Un.laid k hp hn) (I.hok.laid k hp ⟨few, out.toList, c, vals_of_strs hy, hg⟩) (by rw [g]; exact I.bare) (fun _ z => nomatch z), rfl, q ys p hperm hsort hn⟩
end
end Gd

namespace Gd
open PySem PySem.Spec PyProof.Rows L2
/-! ### a text's signs: list(x), sorted(x), set(x); dict(pairs) whose keys are tuples -/
def signs (x : Str) : List Str := x.cps.toList.map fun c => ⟨#[c]⟩
theorem signs_len (x : Str) : (signs x).length = x.length := by
  unfold signs
  rw [List.length_map, Array.length_toList]
  rfl
theorem strsAre_at : ∀ {us : List Value} {ys : List Str}, us.length = ys.length → (∀ (i : Nat) (v : Value), us[i]? = some v → ∃ y t, ys[i]? = some y ∧ v = Value.str y t) → StrsAre us ys
  | [], [], _, _ => .nil
  | [], _ :: _, h, _ => nomatch h
  | _ :: _, [], h, _ => nomatch h
  | u :: us, y :: ys, h, q => by
    obtain ⟨z, t, e1, e2⟩ := q 0 u rfl
    cases e1
    subst e2
    exact .cons y t (strsAre_at (Nat.succ.inj h) fun i v e => q (i + 1) v e)
theorem signs_are {x : Str} {acc : Array Value} (h : ItemsOf (SignAt x) acc x.cps.size) : StrsAre acc.toList (signs x) := by
  obtain ⟨h1, h2⟩ := h
  refine strsAre_at (by rw [signs_len, Array.length_toList, h1]; rfl) fun i v e => ?_
  rw [Array.getElem?_toList] at e
  obtain ⟨c, u, q1, q2⟩ := h2 i v e
  refine ⟨⟨#[c]⟩, u, ?_, q2⟩
  show (x.cps.toList.map _)[i]? = _
  rw [List.getElem?_map, Array.getElem?_toList, q1]
  rfl
theorem signs_map (x : Str) : ∀ y ∈ signs x, ∃ c ∈ x.cps.toList, y = ⟨#[c]⟩ := fun y h => by
  obtain ⟨c, hc, rfl⟩ := List.mem_map.mp h
  exact ⟨c, hc, rfl⟩
section
variable {P : Program} {w : World} {A : Around} {E : Value → Shared → Prop} {s : Shared}
theorem sorted_S {x : Str} {t : Tok} {Q : Value → Shared → Prop} (hd : A.handled = none) (h64 : x.length < 64)
    (h : ∀ s' p (out : Array Value) (c : Nat) (ys : List Str), (∀ b o, s.heap.get? b = some o → s'.heap.get? b = some o) → s'.gens = s.gens → s'.os = s.os → s.heap.get? p = none →
      s'.heap.get? p = some (seqObj "list" out c) → StrsAre out.toList ys → ys.Perm (signs x) → sortedS ys = true → Q (.ref p) s') :
    wpAny (model P w) A (call (.builtin "sorted") [.str x t]) Q E s := by
  apply Calls.call_function_entry kind_sorted plain_sorted entry_sorted (args_sorted1 _)
  unfold Builtin.«sorted»
  apply wpAny_bind (m := checkCount "sorted" 1 1 _)
  apply wpAny_pure
  apply wpAny_bind
  refine wpAny_collect_str (A := A.in1) hd x t (fun s1 acc k1 g1 _ o1 it => ?_) (by rw [sizeLine_eq]; have : x.cps.size < 64 := h64; omega)
  have txts := signs_are it
  generalize acc.toList = vs at txts
  have vlen : vs.length = x.length := by
    rw [StrsAre.len_eq txts, signs_len]
  have z1 : s.heap.get? s1.heap.objs.size = none := by
    cases q : s.heap.get? s1.heap.objs.size with
    | none => rfl
    | some o => exact absurd (Heap.lt_size (k1 _ _ q)) (Nat.lt_irrefl _)
  apply wpAny_bind
  refine wpAny_newList ?_ (by rw [vlen, sizeLine_eq]; omega)
  have born : (s1.heap.push (seqObj "list" vs.toArray 0)).get? s1.heap.objs.size = some (seqObj "list" vs.toArray 0) := Heap.get?_push_size _ rfl
  apply wpAny_bind
  apply wpAny_holding
  refine wpAny_call_entry slot_list_sort ⟨_, born, rfl⟩ entry_list_sort (list_sort_treeK strKind_oneLt born txts.keysOf (fun v1 v2 r e => keyKind_strs (by rw [← e]; exact txts)) (by rw [vlen]; exact h64) fun st a1 a2 => ?_) (args_list_sort _)
  obtain ⟨ys, b1, b2, b3⟩ := sorted_out_str txts a1 a2
  obtain ⟨c, hc⟩ := sortedHeap_at (vs := vs) (out := (arrOf st).map (·.2)) born
  refine ⟨_, rfl, wpAny_pure ⟨_, rfl, h _ s1.heap.objs.size _ c ys (fun b u e => ?_) g1 o1 z1 hc b1 b2 b3⟩⟩
  have old := k1 b u e
  have lt := Heap.lt_size old
  show (sortedHeap (s1.heap.push (seqObj "list" vs.toArray 0)) s1.heap.objs.size vs _).get? b = some u
  rw [sortedHeap_old (Nat.ne_of_lt lt) (by rw [size_push']; exact Nat.lt_succ_of_lt lt)]
  exact Heap.get?_push_of_some _ old
end
/-- what is tracked lives -/
theorem obj_live {P : Program} {w : World} {H : Hp} {h : Heap} {a : Addr} {o : HO} (x : ObjOk P w H h a o) : ∃ u, h.get? a = some u := by
  cases o with
  | lst xs => exact let ⟨_, _, _, _, e⟩ := x; ⟨_, e⟩
  | tup xs => exact let ⟨_, _, _, ob, e, _⟩ := x; ⟨ob, e⟩
  | dK kvs => exact let ⟨_, _, _, _, ob, _, _, e, _⟩ := x; ⟨ob, e⟩
  | dT kvs => exact let ⟨_, _, _, _, ob, _, _, e, _⟩ := x; ⟨ob, e⟩
  | set S n => exact let ⟨ob, _, _, _, e, _⟩ := x; ⟨ob, e⟩
  | ins C dx fs => exact let ⟨_, _, _, e, _⟩ := x; ⟨_, e⟩
  | own y => exact x
  | xd fs => exact let ⟨_, ⟨ob, _, _, e, _⟩, _⟩ := x; ⟨ob, e⟩
  | rng lo hi => exact let ⟨_, _, _, e⟩ := x; ⟨_, e⟩
  | frz ob u => exact ⟨ob, x.1⟩
  | tbl ps => exact ⟨_, x⟩
  | met f y => exact ⟨_, x⟩
  | ext φ => exact x.2.1
section
variable {X : Cx}
/-- sorted(a text) -/
theorem cr_sortX (hc : X.calm = true) : CallR X (.builtin "sorted") (fun vs H Q => ∃ x : Str, vs = [.str x] ∧ x.length < 64 ∧ ∀ (ys : List Str) (p : Addr), ys.Perm (signs x) → sortedS ys = true → H p = none → Q (.ref p) (upd H p (.lst (ys.map V.str)))) := by
  intro pins s σ H vs us Q I r h
  obtain ⟨x, rfl, h64, q⟩ := h
  obtain ⟨u, rfl, rx⟩ := vals1 r
  obtain ⟨t, rfl⟩ : ∃ t, u = Value.str x t := rx
  refine sorted_S (I.ok.hd hc) h64 fun s' p out c ys k g o hp hg hy hperm hsort => ?_
  have few : (ys.map V.str).length ≤ sizeLine := by rw [List.length_map, hperm.length_eq, signs_len, sizeLine_eq]; omega
  have hn : H p = none := by
    cases e : H p with
    | none => rfl
    | some u =>
      obtain ⟨ob, z⟩ := obj_live (I.hok p u e)
      rw [hp] at z
      exact nomatch z
  exact ⟨.ref p, upd H p (.lst (ys.map V.str)), I.call' (ch := []) o (Un.laidN k hp hn) (I.hok.laidN k hn ⟨few, out.toList, c, vals_of_strs hy, hg⟩) (by rw [g]; exact I.bare) (fun _ z => nomatch z), rfl, q ys p hperm hsort hn⟩
/-- list(a text) -/
theorem call_listX (hc : X.calm = true) : CallR X (.type "list") (fun vs H Q => ∃ x : Str, vs = [.str x] ∧ x.length ≤ sizeLine ∧ ∀ p, H p = none → Q (.ref p) (upd H p (.lst ((signs x).map V.str)))) := by
  intro pins s σ H vs us Q I r h
  obtain ⟨x, rfl, hl, q⟩ := h
  obtain ⟨u, rfl, rx⟩ := vals1 r
  obtain ⟨t, rfl⟩ : ∃ t, u = Value.str x t := rx
  refine call_list_str (I.ok.hd hc) x t (fun h' tk acc c k e it => ?_) hl
  have few : ((signs x).map V.str).length ≤ sizeLine := by rw [List.length_map, signs_len]; exact hl
  have hn : H s.heap.objs.size = none := I.hok.fresh (Nat.le_refl _)
  exact ⟨.ref s.heap.objs.size, upd H s.heap.objs.size (.lst ((signs x).map V.str)), I.laid (t' := tk) k (Nat.le_refl _) (show ObjOk X.prog X.w _ h' _ (.lst ((signs x).map V.str)) from ⟨few, acc.toList, c, vals_of_strs (signs_are it), e⟩), rfl, q _ hn⟩
end
end Gd

namespace Fw
/-! ### cheapest chains by all middle symbols, as mathematics -/
abbrev Co := Option Int
def csum : Co → Co → Co
  | some a, some b => some (a + b)
  | _, _ => none
def cheap : Co → Co → Bool
  | some a, some b => decide (a < b)
  | some _, none => true
  | none, _ => false
/-- at most -/
def Le (a b : Co) : Prop := ∀ w, b = some w → ∃ v, a = some v ∧ v ≤ w
abbrev Nn (a : Co) : Prop := Le (some 0) a
theorem Le.refl (a : Co) : Le a a := fun w h => ⟨w, h, Int.le_refl w⟩
theorem Le.trans {a b c : Co} (h : Le a b) (k : Le b c) : Le a c := fun w e => by
  obtain ⟨v, e1, l1⟩ := k w e
  obtain ⟨u, e2, l2⟩ := h v e1
  exact ⟨u, e2, Int.le_trans l2 l1⟩
theorem Le.some {v w : Int} (h : Le (some v) (some w)) : v ≤ w := by
  obtain ⟨u, e, l⟩ := h w rfl
  cases e
  exact l
theorem le_some {v w : Int} (h : v ≤ w) : Le (some v) (some w) := fun u e => by
  cases e
  exact ⟨v, rfl, h⟩
theorem csum_some {a b : Co} {w : Int} (h : csum a b = some w) : ∃ u v, a = some u ∧ b = some v ∧ w = u + v := by
  match a, b, h with
  | some u, some v, h => exact ⟨u, v, rfl, rfl, (Option.some.inj h).symm⟩
theorem csum_le {a b c d : Co} (h : Le a c) (k : Le b d) : Le (csum a b) (csum c d) := fun w e => by
  obtain ⟨u, v, rfl, rfl, rfl⟩ := csum_some e
  obtain ⟨u', rfl, l1⟩ := h u rfl
  obtain ⟨v', rfl, l2⟩ := k v rfl
  exact ⟨u' + v', rfl, by omega⟩
theorem csum_assoc (a b c : Co) : csum (csum a b) c = csum a (csum b c) := by
  match a, b, c with
  | some u, some v, some w => show some _ = some _; rw [Int.add_assoc]
  | none, _, _ => rfl
  | some _, none, none => rfl
  | some _, none, some _ => rfl
  | some _, some _, none => rfl
theorem csum_zero (a : Co) : csum a (some 0) = a := by
  match a with
  | some u => show some _ = some _; rw [Int.add_zero]
  | none => rfl
theorem zero_csum (a : Co) : csum (some 0) a = a := by
  match a with
  | some u => show some _ = some _; rw [Int.zero_add]
  | none => rfl
theorem le_right {a b : Co} (h : Nn a) : Le b (csum a b) := by
  have := csum_le h (Le.refl b)
  rwa [zero_csum] at this
theorem le_left {a b : Co} (h : Nn b) : Le a (csum a b) := by
  have := csum_le (Le.refl a) h
  rwa [csum_zero] at this
theorem cheap_not {a b : Co} (h : cheap a b = true) (k : Le b a) : False := by
  match a, b, h with
  | some u, some v, h =>
    have := of_decide_eq_true h
    have := Le.some k
    omega
  | some u, none, h =>
    obtain ⟨v, e, _⟩ := k u rfl
    exact nomatch e
theorem cheap_false {a b : Co} (h : cheap a b = false) : Le b a := by
  match a, b, h with
  | some u, some v, h => exact le_some (Int.not_lt.mp (of_decide_eq_false h))
  | none, _, _ => exact fun w e => nomatch e
theorem cheap_le {a b : Co} (h : cheap a b = true) : Le a b := by
  match a, b, h with
  | some u, some v, h => exact le_some (Int.le_of_lt (of_decide_eq_true h))
  | some u, none, _ => exact fun w e => nomatch e
section
variable {α : Type} [DecidableEq α]
abbrev Fn (α : Type) := α → α → Co
abbrev Cn (α : Type) := α → α → List α
def put {β : Type} (f : α → α → β) (x y : α) (c : β) : α → α → β := fun a b => if a = x ∧ b = y then c else f a b
theorem put_same {β : Type} (f : α → α → β) (x y : α) (c : β) : put f x y c x y = c := if_pos ⟨rfl, rfl⟩
theorem put_ne {β : Type} {f : α → α → β} {x y a b : α} {c : β} (h : ¬ (a = x ∧ b = y)) : put f x y c a b = f a b := if_neg h
/-- one look at a pair -/
def relax (m x y : α) (f : Fn α) : Fn α := if cheap (csum (f x m) (f m y)) (f x y) = true then put f x y (csum (f x m) (f m y)) else f
def relaxC (m x y : α) (s : Fn α × Cn α) : Fn α × Cn α :=
  if cheap (csum (s.1 x m) (s.1 m y)) (s.1 x y) = true then (put s.1 x y (csum (s.1 x m) (s.1 m y)), put s.2 x y (s.2 x m ++ (s.2 m y).tail)) else s
theorem relaxC_fst (m x y : α) (s : Fn α × Cn α) : (relaxC m x y s).1 = relax m x y s.1 := by
  unfold relaxC relax
  split <;> rfl
def row (m x : α) (ys : List α) (s : Fn α × Cn α) : Fn α × Cn α := ys.foldl (fun s y => relaxC m x y s) s
def pass (m : α) (xs ys : List α) (s : Fn α × Cn α) : Fn α × Cn α := xs.foldl (fun s x => row m x ys s) s
def runC (ms xs : List α) (s : Fn α × Cn α) : Fn α × Cn α := ms.foldl (fun s m => pass m xs xs s) s
def rowF (m x : α) (ys : List α) (f : Fn α) : Fn α := ys.foldl (fun f y => relax m x y f) f
def passF (m : α) (xs ys : List α) (f : Fn α) : Fn α := xs.foldl (fun f x => rowF m x ys f) f
def run (ms xs : List α) (f : Fn α) : Fn α := ms.foldl (fun f m => passF m xs xs f) f
theorem row_fst (m x : α) : ∀ (ys : List α) (s : Fn α × Cn α), (row m x ys s).1 = rowF m x ys s.1
  | [], s => rfl
  | y :: ys, s => by
    show (row m x ys (relaxC m x y s)).1 = rowF m x ys (relax m x y s.1)
    rw [row_fst m x ys, relaxC_fst]
theorem pass_fst (m : α) (ys : List α) : ∀ (xs : List α) (s : Fn α × Cn α), (pass m xs ys s).1 = passF m xs ys s.1
  | [], s => rfl
  | x :: xs, s => by
    show (pass m xs ys (row m x ys s)).1 = passF m xs ys (rowF m x ys s.1)
    rw [pass_fst m ys xs, row_fst]
theorem runC_fst (xs : List α) : ∀ (ms : List α) (s : Fn α × Cn α), (runC ms xs s).1 = run ms xs s.1
  | [], s => rfl
  | m :: ms, s => by
    show (runC ms xs (pass m xs xs s)).1 = run ms xs (passF m xs xs s.1)
    rw [runC_fst xs ms, pass_fst]
/-- what one middle symbol gives at once -/
def one (m : α) (s : Fn α × Cn α) (P : α → α → Bool) : Fn α × Cn α :=
  (fun x y => if (P x y && cheap (csum (s.1 x m) (s.1 m y)) (s.1 x y)) = true then csum (s.1 x m) (s.1 m y) else s.1 x y,
   fun x y => if (P x y && cheap (csum (s.1 x m) (s.1 m y)) (s.1 x y)) = true then s.2 x m ++ (s.2 m y).tail else s.2 x y)
theorem cheap_irr (a : Co) : cheap a a = false := by
  match a with
  | some u => exact decide_eq_false (Int.lt_irrefl u)
  | none => rfl
theorem one_col {m : α} {s : Fn α × Cn α} {P : α → α → Bool} (h : s.1 m m = some 0) (x : α) : (one m s P).1 x m = s.1 x m ∧ (one m s P).2 x m = s.2 x m := by
  have e : cheap (csum (s.1 x m) (s.1 m m)) (s.1 x m) = false := by rw [h, csum_zero, cheap_irr]
  unfold one
  simp only [e, Bool.and_false, Bool.false_eq_true, if_false]
  exact ⟨trivial, trivial⟩
theorem one_row {m : α} {s : Fn α × Cn α} {P : α → α → Bool} (h : s.1 m m = some 0) (y : α) : (one m s P).1 m y = s.1 m y ∧ (one m s P).2 m y = s.2 m y := by
  have e : cheap (csum (s.1 m m) (s.1 m y)) (s.1 m y) = false := by rw [h, zero_csum, cheap_irr]
  unfold one
  simp only [e, Bool.and_false, Bool.false_eq_true, if_false]
  exact ⟨trivial, trivial⟩
theorem one_step {m : α} {s : Fn α × Cn α} {P : α → α → Bool} (h : s.1 m m = some 0) (x y : α) (hP : P x y = false) : relaxC m x y (one m s P) = one m s (fun a b => P a b || (decide (a = x) && decide (b = y))) := by
  have e1 := one_col (P := P) h x
  have e2 := one_row (P := P) h y
  have e3 : (one m s P).1 x y = s.1 x y := by
    unfold one
    simp only [hP, Bool.false_and, Bool.false_eq_true, if_false]
  unfold relaxC
  rw [e1.1, e2.1, e3, e1.2, e2.2]
  by_cases c : cheap (csum (s.1 x m) (s.1 m y)) (s.1 x y) = true
  · rw [if_pos c]
    refine Prod.ext ?_ ?_ <;> funext a b <;> by_cases q : a = x ∧ b = y
    · obtain ⟨rfl, rfl⟩ := q
      simp [one, put, c]
    · have q' : (decide (a = x) && decide (b = y)) = false := by
        rw [Bool.and_eq_false_iff, decide_eq_false_iff_not, decide_eq_false_iff_not]
        exact Decidable.not_and_iff_or_not.mp q
      simp [one, put, q, q']
    · obtain ⟨rfl, rfl⟩ := q
      simp [one, put, c]
    · have q' : (decide (a = x) && decide (b = y)) = false := by
        rw [Bool.and_eq_false_iff, decide_eq_false_iff_not, decide_eq_false_iff_not]
        exact Decidable.not_and_iff_or_not.mp q
      simp [one, put, q, q']
  · rw [if_neg c]
    have c' := Bool.eq_false_iff.mpr c
    refine Prod.ext ?_ ?_ <;> funext a b <;> by_cases q : a = x ∧ b = y
    · obtain ⟨rfl, rfl⟩ := q
      simp [one, c']
    · have q' : (decide (a = x) && decide (b = y)) = false := by
        rw [Bool.and_eq_false_iff, decide_eq_false_iff_not, decide_eq_false_iff_not]
        exact Decidable.not_and_iff_or_not.mp q
      simp [one, q, q']
    · obtain ⟨rfl, rfl⟩ := q
      simp [one, c']
    · have q' : (decide (a = x) && decide (b = y)) = false := by
        rw [Bool.and_eq_false_iff, decide_eq_false_iff_not, decide_eq_false_iff_not]
        exact Decidable.not_and_iff_or_not.mp q
      simp [one, q, q']
theorem one_none (m : α) (s : Fn α × Cn α) : one m s (fun _ _ => false) = s := by
  unfold one
  simp only [Bool.false_and, Bool.false_eq_true, if_false]
theorem one_congr {m : α} {s : Fn α × Cn α} {P R : α → α → Bool} (h : ∀ a b, P a b = R a b) : one m s P = one m s R := by
  have e : P = R := by
    funext a b
    exact h a b
  rw [e]
theorem row_one {m x : α} {s : Fn α × Cn α} (h : s.1 m m = some 0) : ∀ (ys : List α) (P : α → α → Bool), ys.Nodup → (∀ y ∈ ys, P x y = false) → row m x ys (one m s P) = one m s (fun a b => P a b || (decide (a = x) && decide (b ∈ ys)))
  | [], P, _, _ => by
    show one m s P = _
    exact one_congr fun a b => by simp
  | y :: ys, P, nd, hP => by
    obtain ⟨n1, n2⟩ := List.nodup_cons.mp nd
    show row m x ys (relaxC m x y (one m s P)) = _
    rw [one_step h x y (hP y (.head _)), row_one h ys _ n2 fun z hz => ?_]
    · refine one_congr fun a b => ?_
      by_cases e : a = x <;> by_cases e2 : b = y <;> by_cases e3 : b ∈ ys <;> simp [e, e2, e3]
    · have ne : z ≠ y := fun q => n1 (q ▸ hz)
      simp [hP z (.tail _ hz), ne]
theorem pass_one {m : α} {s : Fn α × Cn α} (h : s.1 m m = some 0) {ys : List α} (ny : ys.Nodup) : ∀ (xs : List α) (P : α → α → Bool), xs.Nodup → (∀ x ∈ xs, ∀ y ∈ ys, P x y = false) →
    pass m xs ys (one m s P) = one m s (fun a b => P a b || (decide (a ∈ xs) && decide (b ∈ ys)))
  | [], P, _, _ => by
    show one m s P = _
    exact one_congr fun a b => by simp
  | x :: xs, P, nd, hP => by
    obtain ⟨n1, n2⟩ := List.nodup_cons.mp nd
    show pass m xs ys (row m x ys (one m s P)) = _
    rw [row_one h ys P ny (hP x (.head _)), pass_one h ny xs _ n2 fun z hz y hy => ?_]
    · refine one_congr fun a b => ?_
      by_cases e : a = x <;> by_cases e2 : b ∈ ys <;> by_cases e3 : a ∈ xs <;> simp [e, e2, e3]
    · have ne : z ≠ x := fun q => n1 (q ▸ hz)
      simp [hP z (.tail _ hz) y hy, ne]
theorem pass_eq {m : α} {s : Fn α × Cn α} (h : s.1 m m = some 0) {xs : List α} (nd : xs.Nodup) : pass m xs xs s = one m s (fun a b => decide (a ∈ xs) && decide (b ∈ xs)) := by
  have e := pass_one h nd xs (fun _ _ => false) nd fun _ _ _ _ => rfl
  rw [one_none] at e
  rw [e]
  exact one_congr fun a b => by simp
/-! ### what holds of the costs and the chains -/
def wt (p : Fn α) : List α → Co
  | [] => some 0
  | [_] => some 0
  | x :: y :: r => csum (p x y) (wt p (y :: r))
structure Way (p : Fn α) (S D : List α) (x y : α) (w : Int) (l : List α) : Prop where
  hd : ∃ r, l = x :: r
  la : l.getLast? = some y
  nd : l.Nodup
  mem : ∀ z ∈ l, z ∈ D
  inn : ∀ z ∈ l.tail.dropLast, z ∈ S
  w : wt p l = some w
structure Good (p : Fn α) (S D : List α) (f : Fn α) : Prop where
  di : ∀ x ∈ D, f x x = some 0
  nn : ∀ x ∈ D, ∀ y ∈ D, Nn (f x y)
  lp : ∀ x ∈ D, ∀ y ∈ D, Le (f x y) (p x y)
  tr : ∀ z ∈ S, ∀ x ∈ D, ∀ y ∈ D, Le (f x y) (csum (f x z) (f z y))
theorem wt_app (p : Fn α) (z : α) : ∀ (a b : List α), wt p (a ++ z :: b) = csum (wt p (a ++ [z])) (wt p (z :: b))
  | [], b => (zero_csum _).symm
  | [x], b => by
    show csum (p x z) (wt p (z :: b)) = csum (csum (p x z) (some 0)) (wt p (z :: b))
    rw [csum_zero]
  | x :: y :: a, b => by
    show csum (p x y) (wt p ((y :: a) ++ z :: b)) = csum (csum (p x y) (wt p ((y :: a) ++ [z]))) _
    rw [wt_app p z (y :: a) b, csum_assoc]
/-- a way through S is no cheaper -/
theorem way_le {p f : Fn α} {S D : List α} (G : Good p S D f) (sub : ∀ z ∈ S, z ∈ D) : ∀ (r : List α) (x y : α), (x :: r).getLast? = some y → (∀ z ∈ x :: r, z ∈ D) → (∀ z ∈ r.dropLast, z ∈ S) → Le (f x y) (wt p (x :: r))
  | [], x, y, la, mem, inn => by
    have e : x = y := Option.some.inj la
    subst e
    rw [G.di x (mem x (.head _))]
    exact Le.refl _
  | [z], x, y, la, mem, inn => by
    have e : z = y := Option.some.inj la
    subst e
    show Le _ (csum (p x z) (some 0))
    rw [csum_zero]
    exact G.lp x (mem x (.head _)) z (mem z (.tail _ (.head _)))
  | z :: u :: r, x, y, la, mem, inn => by
    have hz : z ∈ S := inn z (by simp)
    have k := way_le G sub (u :: r) z y (by simpa using la) (fun v hv => mem v (.tail _ hv)) fun v hv => inn v (by simp [hv])
    have hy : y ∈ D := mem y (List.mem_of_getLast? la)
    refine (G.tr z hz x (mem x (.head _)) y hy).trans ?_
    exact csum_le (G.lp x (mem x (.head _)) z (sub z hz)) k
abbrev inD (D : List α) : α → α → Bool := fun a b => decide (a ∈ D) && decide (b ∈ D)
section
variable {p : Fn α} {S D : List α} {s : Fn α × Cn α} {m x y : α}
theorem one_at (hx : x ∈ D) (hy : y ∈ D) : (one m s (inD D)).1 x y = if cheap (csum (s.1 x m) (s.1 m y)) (s.1 x y) = true then csum (s.1 x m) (s.1 m y) else s.1 x y := by
  unfold one
  simp [hx, hy]
theorem one_at2 (hx : x ∈ D) (hy : y ∈ D) : (one m s (inD D)).2 x y = if cheap (csum (s.1 x m) (s.1 m y)) (s.1 x y) = true then s.2 x m ++ (s.2 m y).tail else s.2 x y := by
  unfold one
  simp [hx, hy]
theorem one_le (hx : x ∈ D) (hy : y ∈ D) : Le ((one m s (inD D)).1 x y) (s.1 x y) := by
  rw [one_at hx hy]
  split
  · rename_i c; exact cheap_le c
  · exact Le.refl _
theorem one_le2 (hx : x ∈ D) (hy : y ∈ D) : Le ((one m s (inD D)).1 x y) (csum (s.1 x m) (s.1 m y)) := by
  rw [one_at hx hy]
  split
  · exact Le.refl _
  · rename_i c; exact cheap_false (Bool.eq_false_iff.mpr c)
theorem one_or (hx : x ∈ D) (hy : y ∈ D) : (one m s (inD D)).1 x y = s.1 x y ∨ (one m s (inD D)).1 x y = csum (s.1 x m) (s.1 m y) := by
  rw [one_at hx hy]
  split
  · exact .inr rfl
  · exact .inl rfl
theorem nn_csum {a b : Co} (h : Nn a) (k : Nn b) : Nn (csum a b) := by
  have := csum_le h k
  rwa [zero_csum] at this
theorem one_good (G : Good p S D s.1) (hm : m ∈ D) (sub : ∀ z ∈ S, z ∈ D) : Good p (m :: S) D (one m s (inD D)).1 where
  di := fun x hx => by
    have c : cheap (csum (s.1 x m) (s.1 m x)) (s.1 x x) = false := by
      cases e : cheap (csum (s.1 x m) (s.1 m x)) (s.1 x x) with
      | false => rfl
      | true => exact (cheap_not e (by rw [G.di x hx]; exact nn_csum (G.nn x hx m hm) (G.nn m hm x hx))).elim
    rw [one_at hx hx, c, if_neg Bool.false_ne_true]
    exact G.di x hx
  nn := fun x hx y hy => by
    rcases one_or (m := m) (s := s) hx hy with e | e <;> rw [e]
    · exact G.nn x hx y hy
    · exact nn_csum (G.nn x hx m hm) (G.nn m hm y hy)
  lp := fun x hx y hy => (one_le hx hy).trans (G.lp x hx y hy)
  tr := fun z hz x hx y hy => by
    have mm := G.di m hm
    rcases List.mem_cons.mp hz with rfl | hz
    · rw [(one_col mm x).1, (one_row mm y).1]
      exact one_le2 hx hy
    · have zD := sub z hz
      have T := G.tr z hz
      have b2 := one_le2 (m := m) (s := s) hx hy
      rcases one_or (m := m) (s := s) hx zD with e | e <;> rcases one_or (m := m) (s := s) zD hy with e2 | e2 <;> rw [e, e2]
      · exact (one_le hx hy).trans (T x hx y hy)
      · refine b2.trans ?_
        rw [← csum_assoc]
        exact csum_le (T x hx m hm) (Le.refl _)
      · refine b2.trans ?_
        rw [csum_assoc]
        exact csum_le (Le.refl _) (T m hm y hy)
      · refine b2.trans ?_
        rw [csum_assoc]
        exact csum_le (Le.refl _) ((le_right (G.nn z zD m hm)).trans (le_right (G.nn m hm z zD)))
/-- a way cut at one of its symbols -/
theorem cut {f : Fn α} (G : Good p S D f) (sub : ∀ z ∈ S, z ∈ D) {r : List α} {x y z : α} (la : (x :: r).getLast? = some y) (mem : ∀ z ∈ x :: r, z ∈ D) (inn : ∀ z ∈ r.dropLast, z ∈ S) (hz : z ∈ x :: r) :
    ∃ a b, wt p (x :: r) = csum a b ∧ Le (f x z) a ∧ Le (f z y) b := by
  rcases List.mem_cons.mp hz with rfl | hz
  · exact ⟨some 0, wt p (z :: r), (zero_csum _).symm, by rw [G.di z (mem z (.head _))]; exact Le.refl _, way_le G sub r z y la mem inn⟩
  · obtain ⟨a, b, rfl⟩ := List.append_of_mem hz
    rw [List.dropLast_append_of_ne_nil (by simp)] at inn
    refine ⟨wt p ((x :: a) ++ [z]), wt p (z :: b), wt_app p z (x :: a) b, ?_, ?_⟩
    · exact way_le G sub (a ++ [z]) x z (by rw [← List.cons_append, List.getLast?_append]; rfl) (fun v hv => mem v (by
        simp only [List.mem_cons, List.mem_append, List.not_mem_nil, or_false] at hv ⊢
        rcases hv with h | h | h
        · exact .inl h
        · exact .inr (.inl h)
        · exact .inr (.inr (.inl h)))) fun v hv => inn v (by
          rw [List.dropLast_append_of_ne_nil (by simp)] at hv
          simp only [List.dropLast_singleton, List.append_nil] at hv
          exact List.mem_append_left _ hv)
    · refine way_le G sub b z y ?_ (fun v hv => mem v (.tail _ (List.mem_append_right _ hv))) fun v hv => inn v (List.mem_append_right _ ?_)
      · rw [← List.cons_append, List.getLast?_append] at la
        cases e : (z :: b).getLast? with
        | none => exact absurd (List.getLast?_eq_none_iff.mp e) (by simp)
        | some q => rw [e] at la; exact la
      · cases b with
        | nil => exact nomatch hv
        | cons c b => exact .tail _ hv
structure Jn (p : Fn α) (S D : List α) (s : Fn α × Cn α) : Prop where
  g : Good p S D s.1
  wy : ∀ x ∈ D, ∀ y ∈ D, ∀ w, s.1 x y = some w → Way p S D x y w (s.2 x y)
theorem Way.mono {S' : List α} {w : Int} {l : List α} (W : Way p S D x y w l) (h : ∀ z ∈ S, z ∈ S') : Way p S' D x y w l := ⟨W.hd, W.la, W.nd, W.mem, fun z hz => h z (W.inn z hz), W.w⟩
theorem way_cat (G : Good p S D s.1) (hx : x ∈ D) (hy : y ∈ D) (hm : m ∈ D) (sub : ∀ z ∈ S, z ∈ D) {u v : Int} {l k : List α} (A : Way p S D x m u l) (B : Way p S D m y v k) (c : cheap (some (u + v)) (s.1 x y) = true) :
    Way p (m :: S) D x y (u + v) (l ++ k.tail) := by
  obtain ⟨r, rfl⟩ := A.hd
  obtain ⟨t, rfl⟩ := B.hd
  have innA : ∀ z ∈ r.dropLast, z ∈ S := A.inn
  have innB : ∀ z ∈ t.dropLast, z ∈ S := B.inn
  obtain ⟨l', hl'⟩ := List.getLast?_eq_some_iff.mp A.la
  have whole : (x :: r) ++ t = l' ++ m :: t := by rw [hl']; simp
  have uu : (0 : Int) ≤ u := by
    have := (G.nn x hx m hm).trans (way_le G sub r x m A.la A.mem innA)
    rw [A.w] at this
    exact Le.some this
  have last : ∀ z ∈ r, z = m ∨ z ∈ S := fun z hz => by
    have ne : r ≠ [] := List.ne_nil_of_mem hz
    have e : r.dropLast ++ [r.getLast ne] = r := List.dropLast_concat_getLast ne
    rw [← e] at hz
    rcases List.mem_append.mp hz with h | h
    · exact .inr (innA z h)
    · refine .inl ?_
      have h := List.mem_singleton.mp h
      have q := A.la
      rw [← e, ← List.cons_append, List.getLast?_append] at q
      have q : r.getLast ne = m := Option.some.inj q
      exact h.trans q
  have nt := List.nodup_cons.mp B.nd
  refine ⟨⟨r ++ t, rfl⟩, ?_, ?_, ?_, ?_, ?_⟩
  · show ((x :: r) ++ t).getLast? = some y
    rw [whole, List.getLast?_append, B.la]
    rfl
  · show ((x :: r) ++ t).Nodup
    refine List.nodup_append.mpr ⟨A.nd, nt.2, fun z hz z' hz' e => ?_⟩
    subst e
    have nm : z ≠ m := fun q => nt.1 (q ▸ hz')
    obtain ⟨a2, b2, q3, q4, q5⟩ := cut (z := z) G sub B.la B.mem innB (.tail _ hz')
    have zD := A.mem z hz
    have na2 := (G.nn m hm z zD).trans q4
    rw [B.w] at q3
    obtain ⟨v1, v2, rfl, rfl, e2⟩ := csum_some q3.symm
    have := Le.some na2
    rcases List.mem_cons.mp hz with h | h
    · subst h
      exact cheap_not c (q5.trans (le_some (by omega)))
    · have zS : z ∈ S := (last z h).resolve_left nm
      obtain ⟨a1, b1, q6, q7, q8⟩ := cut (z := z) G sub A.la A.mem innA hz
      have nb1 := (G.nn z zD m hm).trans q8
      rw [A.w] at q6
      obtain ⟨u1, u2, rfl, rfl, e3⟩ := csum_some q6.symm
      have := Le.some nb1
      refine cheap_not c ((G.tr z zS x hx y hy).trans ((csum_le q7 q5).trans ?_))
      show Le (some (u1 + v2)) _
      exact le_some (by omega)
  · intro z hz
    rcases List.mem_append.mp hz with h | h
    · exact A.mem z h
    · exact B.mem z (.tail _ h)
  · intro z hz
    have hz : z ∈ (r ++ t).dropLast := hz
    by_cases e : t = []
    · subst e
      rw [List.append_nil] at hz
      exact .tail _ (innA z hz)
    · rw [List.dropLast_append_of_ne_nil e] at hz
      rcases List.mem_append.mp hz with h | h
      · rcases last z h with q | q
        · exact q ▸ .head _
        · exact .tail _ q
      · exact .tail _ (innB z h)
  · show wt p ((x :: r) ++ t) = _
    rw [whole, wt_app, ← hl', A.w, B.w]
    rfl
theorem one_jn (J : Jn p S D s) (hm : m ∈ D) (sub : ∀ z ∈ S, z ∈ D) : Jn p (m :: S) D (one m s (inD D)) := by
  refine ⟨one_good J.g hm sub, fun x hx y hy w h => ?_⟩
  rw [one_at2 hx hy]
  rw [one_at hx hy] at h
  by_cases c : cheap (csum (s.1 x m) (s.1 m y)) (s.1 x y) = true
  · rw [if_pos c] at h ⊢
    obtain ⟨u, v, e1, e2, rfl⟩ := csum_some h
    rw [h] at c
    exact way_cat J.g hx hy hm sub (J.wy x hx m hm u e1) (J.wy m hm y hy v e2) c
  · rw [if_neg c] at h ⊢
    exact (J.wy x hx y hy w h).mono fun z hz => .tail _ hz
theorem run_jn (nd : D.Nodup) : ∀ (ms S : List α) (s : Fn α × Cn α), (∀ m ∈ ms, m ∈ D) → (∀ z ∈ S, z ∈ D) → Jn p S D s → Jn p (ms.reverse ++ S) D (runC ms D s)
  | [], S, s, _, _, J => J
  | m :: ms, S, s, hm, sub, J => by
    have md := hm m (.head _)
    have J1 := one_jn J md sub
    show Jn p _ D (runC ms D (pass m D D s))
    rw [pass_eq (J.g.di m md) nd]
    have := run_jn nd ms (m :: S) _ (fun z hz => hm z (.tail _ hz)) (fun z hz => by
      rcases List.mem_cons.mp hz with rfl | hz
      · exact md
      · exact sub z hz) J1
    rwa [List.reverse_cons, List.append_assoc]
/-- in the middle of a pass -/
theorem mid {xs ys : List α} (h : s.1 m m = some 0) (nx : xs.Nodup) (ny : ys.Nodup) (hx : x ∉ xs) {zs : List α} (hz : zs.Nodup) : ∃ P, row m x zs (pass m xs ys s) = one m s P := by
  have e := pass_one h ny xs (fun _ _ => false) nx fun _ _ _ _ => rfl
  rw [one_none] at e
  rw [e]
  exact ⟨_, row_one h zs _ hz fun y _ => by simp [hx]⟩
theorem start_jn (di : ∀ x ∈ D, p x x = some 0) (nn : ∀ x ∈ D, ∀ y ∈ D, Nn (p x y)) : Jn p [] D (p, fun x y => if x = y then [x] else [x, y]) := by
  refine ⟨⟨di, nn, fun x _ y _ => Le.refl _, fun z hz => nomatch hz⟩, fun x hx y hy w h => ?_⟩
  by_cases e : x = y
  · subst e
    have h : p x x = some w := h
    rw [di x hx] at h
    cases h
    simp only [if_true]
    exact ⟨⟨[], rfl⟩, rfl, List.nodup_cons.mpr ⟨List.not_mem_nil, List.nodup_nil⟩, fun z hz => by rw [List.mem_singleton.mp hz]; exact hx, (fun z hz => nomatch (show z ∈ ([] : List α) from hz)), rfl⟩
  · simp only [e, if_false]
    refine ⟨⟨[y], rfl⟩, rfl, by simp [e], fun z hz => ?_, (fun z hz => nomatch (show z ∈ ([] : List α) from hz)), ?_⟩
    · rcases List.mem_cons.mp hz with rfl | hz
      · exact hx
      · rw [List.mem_singleton.mp hz]
        exact hy
    · show csum (p x y) (some 0) = some w
      rw [csum_zero]
      exact h
theorem fold_take {β : Type} (f : β → α → β) (b : β) {l : List α} {i : Nat} {a : α} (h : l[i]? = some a) : (l.take (i + 1)).foldl f b = f ((l.take i).foldl f b) a := by
  rw [List.take_add_one, h, List.foldl_append]
  rfl
theorem Way.len {w : Int} {l : List α} (W : Way p S D x y w l) : l.length ≤ D.length := by
  have : ∀ (l D : List α), l.Nodup → (∀ z ∈ l, z ∈ D) → l.length ≤ D.length := by
    intro l
    induction l with
    | nil => exact fun _ _ _ => Nat.zero_le _
    | cons a l ih =>
      intro D nd h
      obtain ⟨n1, n2⟩ := List.nodup_cons.mp nd
      have aD := h a (.head _)
      have := ih (D.erase a) n2 fun z hz => (List.mem_erase_of_ne (fun e => n1 (by rw [← e]; exact hz))).mpr (h z (.tail _ hz))
      rw [List.length_erase_of_mem aD] at this
      have pos := List.length_pos_of_mem aD
      rw [List.length_cons]
      omega
  exact this l D W.nd W.mem
end
end
end Fw

namespace Gd
open PySem L2 PyProof.Rows
/-! ### alphabets: the sorted codes of a text's letters -/
def sg (c : Nat) : Str := ⟨#[c]⟩
theorem sg_inj {a b : Nat} (h : sg a = sg b) : a = b := by
  have h : (#[a] : Array Nat) = #[b] := congrArg Str.cps h
  simpa using h
theorem sg_list (c : Nat) : (sg c).cps.toList = [c] := rfl
theorem signs_eq (x : Str) : signs x = x.cps.toList.map sg := rfl
def cod (L : Str) : List Nat := L.cps.toList.mergeSort (fun a b => decide (a ≤ b))
theorem cod_perm (L : Str) : (cod L).Perm L.cps.toList := List.mergeSort_perm _ _
theorem cod_mem {L : Str} {c : Nat} : c ∈ cod L ↔ c ∈ L.cps.toList := (cod_perm L).mem_iff
theorem cod_len (L : Str) : (cod L).length = L.length := by rw [(cod_perm L).length_eq, Array.length_toList]; rfl
theorem cod_sorted (L : Str) : (cod L).Pairwise (· ≤ ·) := by
  have h := List.pairwise_mergeSort (le := fun a b : Nat => decide (a ≤ b)) (fun a b c h1 h2 => by
    have := of_decide_eq_true h1
    have := of_decide_eq_true h2
    exact decide_eq_true (by omega)) (fun a b => by
    rw [Bool.or_eq_true, decide_eq_true_eq, decide_eq_true_eq]
    exact Nat.le_total a b) L.cps.toList
  exact h.imp fun h => of_decide_eq_true h
theorem rising_sg : ∀ (cs : List Nat) (p : Nat), risingS (sg p) (cs.map sg) = true → (p :: cs).Pairwise (· ≤ ·)
  | [], p, _ => List.pairwise_singleton _ p
  | c :: cs, p, h => by
    have h : (!PySem.Spec.ltCps [c] [p] && risingS (sg c) (cs.map sg)) = true := h
    rw [Bool.and_eq_true] at h
    have r := rising_sg cs c h.2
    have pc : p ≤ c := by
      have e := h.1
      rw [ltCps_eq] at e
      refine Nat.le_of_not_lt fun lt => ?_
      have lt' : [c] < [p] := List.cons_lt_cons_iff.mpr (.inl lt)
      rw [decide_eq_true lt'] at e
      exact nomatch e
    refine List.pairwise_cons.mpr ⟨fun a ha => ?_, r⟩
    rcases List.mem_cons.mp ha with rfl | ha
    · exact pc
    · exact Nat.le_trans pc ((List.pairwise_cons.mp r).1 a ha)
theorem sorted_sg : ∀ cs : List Nat, sortedS (cs.map sg) = true → cs.Pairwise (· ≤ ·)
  | [], _ => .nil
  | c :: cs, h => rising_sg cs c h
/-- sorted(L) -/
theorem sorted_eq {L : Str} {ys : List Str} (p : ys.Perm (signs L)) (s : sortedS ys = true) : ys = (cod L).map sg := by
  have e : ys = (ys.map fun y => y.cps.toList.headD 0).map sg := by
    rw [List.map_map]
    symm
    refine (List.map_congr_left fun y hy => ?_).trans (List.map_id ys)
    obtain ⟨c, _, rfl⟩ := signs_map L y (p.mem_iff.mp hy)
    rfl
  have q := p.map fun y => y.cps.toList.headD 0
  rw [signs_eq, List.map_map] at q
  have q2 : L.cps.toList.map ((fun y : Str => y.cps.toList.headD 0) ∘ sg) = L.cps.toList := (List.map_congr_left fun c _ => rfl).trans (List.map_id _)
  rw [q2] at q
  generalize ys.map (fun y => y.cps.toList.headD 0) = cs at e q
  subst e
  congr 1
  exact List.Perm.eq_of_pairwise (le := fun a b : Nat => a ≤ b) (fun a b _ _ h1 h2 => Nat.le_antisymm h1 h2) (sorted_sg cs s) (cod_sorted L) (q.trans (cod_perm L).symm)
/-- the symbols: nothing, and the letters -/
def symL (cs : List Nat) : List Str := Str.empty :: cs.map sg
/-- the alphabet as a text -/
def alph (cs : List Nat) : Str := ⟨cs.toArray⟩
theorem join0_list : ∀ l : List Str, (Txt.join "" l).cps.toList = (l.map fun x => x.cps.toList).flatten := fun l => by
  rw [join_str]
  induction l with
  | nil => rfl
  | cons x l ih =>
    cases l with
    | nil =>
      show x.cps.toList = x.cps.toList ++ []
      rw [List.append_nil]
    | cons y l =>
      have e : (("" : String) : Str).cps.toList = [] := by decide +kernel
      rw [List.map_cons, List.flatten_cons, ← ih]
      show (x ++ "" ++ Str.join "" (y :: l)).cps.toList = _
      rw [app_list, app_list, e, List.append_nil]
theorem join_sym (cs : List Nat) : Txt.join "" (symL cs) = alph cs := by
  apply str_ext
  rw [join0_list]
  show ([] ++ ((cs.map sg).map fun x => x.cps.toList).flatten) = cs
  rw [List.nil_append, List.map_map]
  induction cs with
  | nil => rfl
  | cons c cs ih =>
    rw [List.map_cons, List.flatten_cons, ih]
    rfl
structure Alp (cs : List Nat) : Prop where
  low : ∀ c ∈ cs, low c = true
  nd : cs.Nodup
  pos : cs ≠ []
  len : cs.length ≤ 6
/-- one to six different letters -/
structure Lets (L : Str) : Prop where
  low : ∀ c ∈ L.cps.toList, low c = true
  nd : L.cps.toList.Nodup
  pos : 1 ≤ L.length
  len : L.length ≤ 6
theorem Lets.alp {L : Str} (h : Lets L) : Alp (cod L) := by
  refine ⟨fun c hc => h.low c (cod_mem.mp hc), (cod_perm L).symm.nodup h.nd, fun e => ?_, ?_⟩
  · have := cod_len L
    rw [e] at this
    have := h.pos
    simp at *
    omega
  · rw [cod_len]
    exact h.len
theorem alph_list (cs : List Nat) : (alph cs).cps.toList = cs := rfl
theorem mem_sym {cs : List Nat} {x : Str} : x ∈ symL cs ↔ x = Str.empty ∨ ∃ c ∈ cs, x = sg c := by
  unfold symL
  rw [List.mem_cons, List.mem_map]
  exact or_congr Iff.rfl ⟨fun ⟨c, h, e⟩ => ⟨c, h, e.symm⟩, fun ⟨c, h, e⟩ => ⟨c, h, e.symm⟩⟩
theorem empty_sg (c : Nat) : Str.empty ≠ sg c := fun h => by
  have h : (#[] : Array Nat) = #[c] := congrArg Str.cps h
  exact nomatch congrArg Array.size h
theorem Alp.nds {cs : List Nat} (h : Alp cs) : (symL cs).Nodup := by
  refine List.nodup_cons.mpr ⟨fun m => ?_, ?_⟩
  · obtain ⟨c, _, e⟩ := List.mem_map.mp m
    exact empty_sg c e.symm
  · rw [List.nodup_iff_pairwise_ne, List.pairwise_map]
    exact (List.nodup_iff_pairwise_ne.mp h.nd).imp fun h e => h (sg_inj e)
theorem Alp.lens {cs : List Nat} (h : Alp cs) : (symL cs).length ≤ 7 := by
  have := h.len
  show (cs.map sg).length + 1 ≤ 7
  rw [List.length_map]
  omega
theorem sym_tx {cs : List Nat} (h : Alp cs) {x : Str} (m : x ∈ symL cs) : Tx 1 x := by
  rcases mem_sym.mp m with rfl | ⟨c, hc, rfl⟩
  · exact ⟨Nat.zero_le _, fun c hc => nomatch (show c ∈ ([] : List Nat) from hc)⟩
  · refine ⟨Nat.le_refl _, fun d hd => ?_⟩
    have e : d = c := List.mem_singleton.mp (show d ∈ [c] from hd)
    subst e
    have l := h.low d hc
    unfold low at l
    rw [Bool.and_eq_true] at l
    have := of_decide_eq_true l.2
    omega
theorem alph_self (L : Str) : alph L.cps.toList = L := by
  apply str_ext
  rw [alph_list]
theorem Lets.alp0 {L : Str} (h : Lets L) : Alp L.cps.toList := by
  refine ⟨h.low, h.nd, fun e => ?_, ?_⟩
  · have p := h.pos
    rw [len_list, e] at p
    exact absurd p (by decide)
  · rw [← len_list]
    exact h.len
theorem sym_self {L x : Str} : x ∈ symL L.cps.toList ↔ x ∈ symL (cod L) := by
  rw [mem_sym, mem_sym]
  exact or_congr Iff.rfl ⟨fun ⟨c, h, e⟩ => ⟨c, cod_mem.mpr h, e⟩, fun ⟨c, h, e⟩ => ⟨c, cod_mem.mp h, e⟩⟩
theorem symL_map (cs : List Nat) : [V.str (Str.ofString "")] ++ (cs.map sg).map V.str = (symL cs).map V.str := rfl
theorem BoxAt.keep_ne {H : Hp} {p l : Addr} {o : HO} (b : BoxAt H p) (h : p ≠ l) : BoxAt (L2.upd H l o) p := by
  obtain ⟨x, y, z, e, r⟩ := b
  exact ⟨x, y, z, by rw [upd_ne h]; exact e, r⟩
end Gd

namespace Gd
open PySem PySem.Spec PyProof.Rows L2
/-! ### dict(a list of pairs) whose keys are tuples -/
def mergeT (kvs more : List (List Key × V)) : List (List Key × V) := more.foldl (fun acc kv => putK acc kv.1 kv.2) kvs
theorem mergeT_len : ∀ (more kvs : List (List Key × V)), (mergeT kvs more).length ≤ kvs.length + more.length
  | [], kvs => Nat.le_refl _
  | p :: r, kvs => by
    have h1 := mergeT_len r (putK kvs p.1 p.2)
    have h2 := length_putK kvs p.1 p.2
    show (mergeT (putK kvs p.1 p.2) r).length ≤ _
    rw [List.length_cons]
    omega
theorem KT.merge {H : Hp} : ∀ {more : List (List Key × V)} {rs : List (List Key × Addr × Value)} {kvs : List (List Key × V)} {vs : List (List Key × Addr × Value)}, KT H more rs → KT H kvs vs → KT H (mergeT kvs more) (storedAllH vs rs)
  | _, _, _, _, .nil, r => r
  | _, _, kvs, vs, .cons (a := p) (b := q) h t, r => by
    obtain ⟨h1, h2, h3⟩ := h
    have e : KT H (putK kvs p.1 p.2) (storedH vs q.1 q.2.1 q.2.2) := by
      rw [← h1]
      exact r.put p.1 h2 h3
    show KT H (mergeT (putK kvs p.1 p.2) _) (storedAllH (storedH vs q.1 q.2.1 q.2.2) _)
    exact KT.merge t e
section
variable {X : Cx} {pins : List (Addr × Obj)} {σ : L2.St} {H : Hp} {s : Shared}
/-- a pair (key, value) at p, its key a tuple -/
abbrev PairT (K : PySem.W.Frag) (H : Hp) (p : Addr) (kv : List Key × V) : Prop := ∃ b, SqT K H p [.ref b, kv.2] ∧ H b = some (.tup (kv.1.map kV))
theorem pairsT_of (I : Inv X pins σ H s) : ∀ {ps : List Addr} {kvs : List (List Key × V)}, Paired (PairT X.K H) ps kvs →
    ∃ rs : List (List Key × Addr × Value), KT H kvs rs ∧ rs.length = ps.length ∧ ∀ (j : Nat) (q : List Key × Addr × Value), rs[j]? = some q → ∃ b : Addr, ps[j]? = some b ∧ IsTup s.heap b #[.ref q.2.1, q.2.2]
  | _, _, .nil => ⟨[], .nil, rfl, fun j q e => nomatch (show (none : Option (List Key × Addr × Value)) = some q from by simpa using e)⟩
  | _, _, .cons (a := p) (b := kv) ⟨b, h, hb⟩ t => by
    obtain ⟨rs, r, hl, hp⟩ := pairsT_of I t
    obtain ⟨its, rv, ht, _⟩ := I.tuple h
    obtain ⟨u, y, ei, ru, ry⟩ := vals2 rv
    subst ei
    cases (show u = Value.ref b from ru)
    refine ⟨(kv.1, b, y) :: rs, .cons ⟨rfl, hb, ry⟩ r, by rw [List.length_cons, List.length_cons, hl], fun j q e => ?_⟩
    cases j with
    | zero =>
      cases Option.some.inj e
      exact ⟨p, rfl, ht⟩
    | succ j => exact hp j q e
theorem call_dictT (hc : X.calm = true) (hu : X.A.units + 2 < cLine) : CallR X (.type "dict") (fun xs H Q => ∃ (a : Addr) (ps : List Addr) (kvs : List (List Key × V)), xs = [.ref a] ∧ SqL X.K H a (ps.map V.ref) ∧ Paired (PairT X.K H) ps kvs ∧
    ∀ p, H p = none → Q (.ref p) (upd H p (.dT (mergeT [] kvs)))) := by
  intro pins s σ H xs us Q I r q
  obtain ⟨a, ps, kvs, rfl, hq, hp, q⟩ := q
  obtain ⟨u, rfl, rx⟩ := vals1 r
  cases rx
  obtain ⟨its, rv, pl, hz⟩ := I.list hq
  have ei := refs_at rv
  subst ei
  rw [List.length_map] at hz
  obtain ⟨rs, rel, hl, hpr⟩ := pairsT_of I hp
  obtain ⟨o, n, ho, hcl, hd, hdat⟩ := pl
  have items : PairItems s.heap (ps.map Value.ref).toArray (fun j => ps.getD j 0) (rs.map fun q => (Value.ref q.2.1, q.2.2)) := by
    refine ⟨by simp [hl], fun j k v e => ?_⟩
    rw [List.getElem?_map] at e
    cases e1 : rs[j]? with
    | none => rw [e1] at e; exact nomatch e
    | some q =>
      rw [e1] at e
      cases Option.some.inj e
      obtain ⟨b, e2, e3⟩ := hpr j q e1
      have g : ps.getD j 0 = b := by rw [List.getD_eq_getElem?_getD, e2]; rfl
      refine ⟨by simp [e2, g], .inl ?_⟩
      show s.heap.IsTuple (ps.getD j 0) _
      rw [g]
      obtain ⟨ob, h1, h2, n', h3⟩ := e3
      exact ⟨ob, h1, h2, n', h3⟩
  refine call_dict_pairsH (knd := tupleKind (mixKind X.prog X.w)) (ps := rs) (PairArg.list a _ _ _) (I.ok.hd hc) hu ⟨⟨o, n, ho, hcl, hd, hdat⟩, items⟩ ⟨by rw [List.length_map], fun i key v e => ?_⟩ (fun h' k x hx => ?_) (by rw [List.length_map, hl]; exact hz) fun h' tk hd' k => ?_
  · have e : (rs.map fun q => (Value.ref q.2.1, q.2.2))[i]? = some (key, v) := e
    rw [List.getElem?_map] at e
    cases e1 : rs[i]? with
    | none => rw [e1] at e; exact nomatch e
    | some q =>
      rw [e1] at e
      cases Option.some.inj e
      exact ⟨q.1, q.2.1, rfl, rfl⟩
  · have all : ∀ {l : List (List Key × V)} {m : List (List Key × Addr × Value)}, KT H l m → ∀ x ∈ m, H x.2.1 = some (.tup (x.1.map kV)) := by
      intro l m q
      induction q with
      | nil => intro x hx; exact nomatch hx
      | cons h t ih =>
        intro x hx
        rcases List.mem_cons.mp hx with rfl | hx
        · rw [← h.1]; exact h.2.1
        · exact ih x hx
    obtain ⟨ob, its, n', h1, h2⟩ := key_of I.hok (all rel x hx)
    exact ⟨ob, its, n', k _ _ (Nat.ne_of_lt (Heap.lt_size h1)) (fun z => nomatch z) h1, h2⟩
  · have hm : (s.heap.objs.size == sysModules) = false := beq_eq_false_iff_ne.mpr (Nat.ne_of_gt I.big)
    have hlen : (mergeT [] kvs).length ≤ sizeLine := by
      refine Nat.le_trans (mergeT_len kvs []) ?_
      rw [List.length_nil, Nat.zero_add, Paired.length rel, hl]
      exact hz
    have hn : H s.heap.objs.size = none := I.hok.fresh (Nat.le_refl _)
    obtain ⟨ob, es, ep, g1, g2, g3, g4, _, g5⟩ := hd'
    refine ⟨.ref s.heap.objs.size, upd H s.heap.objs.size (.dT (mergeT [] kvs)), I.laid (t' := tk) (fun b o e => k b o (fun z => nomatch z) e) (Nat.le_refl _) ?_, rfl, q _ hn⟩
    exact ⟨hlen, hm, _, (KT.merge rel .nil).keeps fun b ys e => by rw [upd_ne (ne_of_none e hn)]; exact e, ob, es, ep, g1, g2, g3, g4, g5⟩
end
theorem valV_mem {α : Type} [DecidableEq α] {kvs : List (α × V)} {k : α} {v : V} (h : valV kvs k = some v) : (k, v) ∈ kvs := by
  unfold valV at h
  cases e : kvs.find? fun kv => decide (kv.1 = k) with
  | none => rw [e] at h; exact nomatch h
  | some q =>
    rw [e] at h
    have h : q.2 = v := Option.some.inj h
    have m := List.mem_of_find?_eq_some e
    have e0 := List.find?_some e
    have e1 : q.1 = k := of_decide_eq_true e0
    rw [← h, ← e1]
    exact m
theorem valV_has {α : Type} [DecidableEq α] {kvs : List (α × V)} {k : α} {v : V} (h : (k, v) ∈ kvs) : ∃ v', valV kvs k = some v' ∧ (k, v') ∈ kvs := by
  cases e : valV kvs k with
  | some v' => exact ⟨v', rfl, valV_mem e⟩
  | none =>
    unfold valV at e
    have e := Option.map_eq_none_iff.mp e
    have z := List.find?_eq_none.mp e (k, v) h
    exact absurd (decide_eq_true rfl) z
/-- a dict with tuples as keys, read while it is locked -/
theorem DGet.tz {H : Hp} {a b : Addr} {o : Obj} {kvs : List (List Key × V)} {k : List Key} (e : H a = some (.frz o (.dT kvs))) (eb : H b = some (.tup (k.map kV))) : DGet H a (.ref b) (valV kvs k) := .inr ⟨kvs, k, b, .inr ⟨o, e⟩, rfl, eb, rfl⟩
theorem hu2_of {k : Nat} {A : Around} (r : Room k A) : A.units + 2 < cLine := by
  have := room100 r
  omega
end Gd

namespace Gd
open PySem L2 Fw
/-! ### costs and chains of pairs of texts, in dicts -/
/-- a cost or a price -/
def oV : Co → V
  | none => .non
  | some i => .int i
theorem oV_non (a : Co) : decide (oV a = .non) = a.isNone := by
  match a with
  | none => exact decide_eq_true rfl
  | some i => exact decide_eq_false fun z => nomatch z
abbrev kk (x y : Str) : List Key := [.inr x, .inr y]
theorem kk_inj {x y a b : Str} (h : kk a b = kk x y) : a = x ∧ b = y := by
  injection h with h1 h2
  injection h2 with h2 _
  injection h1 with h1
  injection h2 with h2
  exact ⟨h1, h2⟩
theorem kk_ne {x y a b : Str} (h : ¬ (a = x ∧ b = y)) : kk a b ≠ kk x y := fun e => h (kk_inj e)
theorem put_same_len {kvs : List (List Key × V)} {k : List Key} {v u : V} (h : valV kvs k = some u) : (putK kvs k v).length = kvs.length := by
  unfold putK
  have m := valV_mem h
  rw [if_pos (List.any_eq_true.mpr ⟨_, m, decide_eq_true rfl⟩), List.length_map]
theorem put_mem {kvs : List (List Key × V)} {k : List Key} {v : V} {q : List Key × V} (h : q ∈ putK kvs k v) : q = (k, v) ∨ q ∈ kvs := by
  unfold putK at h
  split at h
  · obtain ⟨p, hp, rfl⟩ := List.mem_map.mp h
    by_cases e : p.1 = k
    · rw [if_pos e]
      exact .inl (by rw [e])
    · rw [if_neg e]
      exact .inr hp
  · rcases List.mem_append.mp h with h | h
    · exact .inr h
    · exact .inl (List.mem_singleton.mp h)
/-- a dict from the pairs of D to the values of f -/
structure Dic (D : List Str) (f : Str → Str → V) (kvs : List (List Key × V)) : Prop where
  len : kvs.length ≤ 1000
  val : ∀ x ∈ D, ∀ y ∈ D, valV kvs (kk x y) = some (f x y)
  key : ∀ q ∈ kvs, ∃ x ∈ D, ∃ y ∈ D, q.1 = kk x y
theorem Dic.put {D : List Str} {f : Str → Str → V} {kvs : List (List Key × V)} {x y : Str} (h : Dic D f kvs) (hx : x ∈ D) (hy : y ∈ D) (v : V) : Dic D (Fw.put f x y v) (putK kvs (kk x y) v) := by
  refine ⟨?_, fun a ha b hb => ?_, fun q hq => ?_⟩
  · rw [put_same_len (h.val x hx y hy)]
    exact h.len
  · rw [valV_put]
    by_cases e : a = x ∧ b = y
    · obtain ⟨rfl, rfl⟩ := e
      rw [if_pos rfl, put_same]
    · rw [if_neg (kk_ne e), put_ne e]
      exact h.val a ha b hb
  · rcases put_mem hq with rfl | hq
    · exact ⟨x, hx, y, hy, rfl⟩
    · exact h.key q hq
theorem Dic.congr {D : List Str} {f g : Str → Str → V} {kvs : List (List Key × V)} (h : Dic D f kvs) (e : ∀ x ∈ D, ∀ y ∈ D, f x y = g x y) : Dic D g kvs :=
  ⟨h.len, fun x hx y hy => by rw [h.val x hx y hy, e x hx y hy], h.key⟩
/-- costs at d -/
def DFn (H : Hp) (d : Addr) (D : List Str) (f : Fn Str) : Prop := ∃ kvs, H d = some (.dT kvs) ∧ Dic D (fun x y => oV (f x y)) kvs
/-- chains at d: lists of texts -/
def CFn (H : Hp) (d : Addr) (D : List Str) (c : Fw.Cn Str) : Prop := ∃ (kvs : List (List Key × V)) (l : Str → Str → Addr), H d = some (.dT kvs) ∧ Dic D (fun x y => .ref (l x y)) kvs ∧ ∀ x ∈ D, ∀ y ∈ D, H (l x y) = some (.lst ((c x y).map V.str))
theorem DFn.keep {H H' : Hp} {d : Addr} {D : List Str} {f : Fn Str} (h : DFn H d D f) (e : ∀ o, H d = some o → H' d = some o) : DFn H' d D f := let ⟨kvs, h1, h2⟩ := h; ⟨kvs, e _ h1, h2⟩
theorem DFn.same {H H' : Hp} {d : Addr} {D : List Str} {f : Fn Str} (h : DFn H d D f) (e : Same H H') : DFn H' d D f := h.keep fun o => e _ _
theorem CFn.same {H H' : Hp} {d : Addr} {D : List Str} {c : Fw.Cn Str} (h : CFn H d D c) (e : Same H H') : CFn H' d D c :=
  let ⟨kvs, l, h1, h2, h3⟩ := h
  ⟨kvs, l, e _ _ h1, h2, fun x hx y hy => e _ _ (h3 x hx y hy)⟩
theorem DFn.get {H : Hp} {d b : Addr} {D : List Str} {f : Fn Str} {x y : Str} (h : DFn H d D f) (hx : x ∈ D) (hy : y ∈ D) (hb : H b = some (.tup [.str x, .str y])) : DGet H d (.ref b) (some (oV (f x y))) := by
  obtain ⟨kvs, h1, h2⟩ := h
  have g := DGet.t (k := kk x y) h1 hb
  rw [h2.val x hx y hy] at g
  exact g
theorem CFn.get {H : Hp} {d b : Addr} {D : List Str} {c : Fw.Cn Str} {x y : Str} (h : CFn H d D c) (hx : x ∈ D) (hy : y ∈ D) (hb : H b = some (.tup [.str x, .str y])) : ∃ l, DGet H d (.ref b) (some (.ref l)) ∧ H l = some (.lst ((c x y).map V.str)) := by
  obtain ⟨kvs, l, h1, h2, h3⟩ := h
  have g := DGet.t (k := kk x y) h1 hb
  rw [h2.val x hx y hy] at g
  exact ⟨l x y, g, h3 x hx y hy⟩
/-- one cost stored -/
theorem DFn.put {H : Hp} {d b : Addr} {D : List Str} {f : Fn Str} {x y : Str} {c : Co} (h : DFn H d D f) (hx : x ∈ D) (hy : y ∈ D) (hb : H b = some (.tup [.str x, .str y])) :
    ∃ o, DPut H d (.ref b) (oV c) (upd H d o) ∧ DFn (upd H d o) d D (Fw.put f x y c) := by
  obtain ⟨kvs, h1, h2⟩ := h
  refine ⟨_, DPut.t (k := kk x y) h1 hb ?_, _, upd_same, (h2.put hx hy (oV c)).congr fun a _ b _ => ?_⟩
  · have := h2.len
    rw [sizeLine_eq]
    omega
  · unfold Fw.put
    split <;> rfl
theorem CFn.put {H : Hp} {d b l : Addr} {D : List Str} {c : Fw.Cn Str} {x y : Str} {r : List Str} (h : CFn H d D c) (hx : x ∈ D) (hy : y ∈ D) (hb : H b = some (.tup [.str x, .str y])) (hl : H l = some (.lst (r.map V.str))) :
    ∃ o, DPut H d (.ref b) (.ref l) (upd H d o) ∧ CFn (upd H d o) d D (Fw.put c x y r) := by
  obtain ⟨kvs, m, h1, h2, h3⟩ := h
  have ne : ∀ {a : Addr} {xs : List V}, H a = some (.lst xs) → a ≠ d := fun h => ne_of h h1 (fun z => nomatch z)
  refine ⟨_, DPut.t (k := kk x y) h1 hb ?_, _, Fw.put m x y l, upd_same, (h2.put hx hy (.ref l)).congr fun a _ b _ => ?_, fun a ha b hb => ?_⟩
  · have := h2.len
    rw [sizeLine_eq]
    omega
  · unfold Fw.put
    split <;> rfl
  · unfold Fw.put
    split
    · rw [upd_ne (ne hl)]
      exact hl
    · rw [upd_ne (ne (h3 a ha b hb))]
      exact h3 a ha b hb
/-! copied key by key; made pair by pair -/
/-- the first i entries, stored one after another -/
structure Cop (kvs : List (List Key × V)) (i : Nat) (ws : List (List Key × V)) : Prop where
  len : ws.length ≤ i
  val : ∀ k, valV ws k = if ((kvs.take i).any fun q => decide (q.1 = k)) = true then valV kvs k else none
  key : ∀ q ∈ ws, q.1 ∈ kvs.map (·.1)
theorem cop_nil (kvs : List (List Key × V)) : Cop kvs 0 [] := ⟨Nat.le_refl _, fun k => rfl, fun q h => nomatch h⟩
theorem Cop.put {kvs ws : List (List Key × V)} {i : Nat} {k : List Key} {v u : V} (h : Cop kvs i ws) (hi : kvs[i]? = some (k, v)) (hu : valV kvs k = some u) : Cop kvs (i + 1) (putK ws k u) := by
  have tk : ∀ j, ((kvs.take (i + 1)).any fun q => decide (q.1 = j)) = (((kvs.take i).any fun q => decide (q.1 = j)) || decide (k = j)) := fun j => by
    rw [List.take_add_one, hi, List.any_append]
    simp
  refine ⟨Nat.le_trans (length_putK _ _ _) (Nat.succ_le_succ h.len), fun j => ?_, fun q hq => ?_⟩
  · rw [valV_put, tk, h.val j]
    by_cases e : j = k
    · subst e
      rw [if_pos rfl, decide_eq_true rfl, Bool.or_true, if_pos rfl, hu]
    · rw [if_neg e, decide_eq_false (fun z => e z.symm), Bool.or_false]
  · rcases put_mem hq with rfl | hq
    · exact List.mem_map.mpr ⟨_, List.mem_of_getElem? hi, rfl⟩
    · exact h.key q hq
theorem Cop.dic {D : List Str} {f : Str → Str → V} {kvs ws : List (List Key × V)} (h : Cop kvs kvs.length ws) (d : Dic D f kvs) : Dic D f ws := by
  refine ⟨Nat.le_trans h.len d.len, fun x hx y hy => ?_, fun q hq => ?_⟩
  · have v := d.val x hx y hy
    rw [h.val, List.take_length, if_pos (List.any_eq_true.mpr ⟨_, valV_mem v, decide_eq_true rfl⟩), v]
  · obtain ⟨p, hp, e⟩ := List.mem_map.mp (h.key q hq)
    rw [← e]
    exact d.key p hp
/-- the values of f at the pairs S -/
structure Par (S : List (Str × Str)) (f : Str → Str → V) (kvs : List (List Key × V)) : Prop where
  len : kvs.length ≤ S.length
  val : ∀ q ∈ S, valV kvs (kk q.1 q.2) = some (f q.1 q.2)
  key : ∀ q ∈ kvs, ∃ s ∈ S, q.1 = kk s.1 s.2
theorem par_nil (f : Str → Str → V) : Par [] f [] := ⟨Nat.le_refl _, (fun q h => nomatch h), (fun q h => nomatch h)⟩
theorem Par.put {S : List (Str × Str)} {f : Str → Str → V} {kvs : List (List Key × V)} (h : Par S f kvs) (x y : Str) (v : V) : Par (S ++ [(x, y)]) (Fw.put f x y v) (putK kvs (kk x y) v) := by
  refine ⟨?_, fun q hq => ?_, fun q hq => ?_⟩
  · have := h.len
    have := length_putK kvs (kk x y) v
    rw [List.length_append, List.length_singleton]
    omega
  · rw [valV_put]
    by_cases e : q.1 = x ∧ q.2 = y
    · obtain ⟨e1, e2⟩ := e
      rw [e1, e2, if_pos rfl, put_same]
    · rw [if_neg (kk_ne e), put_ne e]
      rcases List.mem_append.mp hq with hq | hq
      · exact h.val q hq
      · cases List.mem_singleton.mp hq
        exact absurd ⟨rfl, rfl⟩ e
  · rcases put_mem hq with rfl | hq
    · exact ⟨(x, y), List.mem_append_right _ (.head _), rfl⟩
    · obtain ⟨s, hs, e⟩ := h.key q hq
      exact ⟨s, List.mem_append_left _ hs, e⟩
theorem Par.congr {S : List (Str × Str)} {f g : Str → Str → V} {kvs : List (List Key × V)} (h : Par S f kvs) (e : ∀ q ∈ S, f q.1 q.2 = g q.1 q.2) : Par S g kvs := ⟨h.len, fun q hq => by rw [h.val q hq, e q hq], h.key⟩
/-- the pairs up to the i-th row's j-th -/
def prs (D : List Str) (i j : Nat) : List (Str × Str) := (D.take i).flatMap (fun x => D.map fun y => (x, y)) ++ ((D[i]?).toList.flatMap fun x => (D.take j).map fun y => (x, y))
theorem prs_zero (D : List Str) : prs D 0 0 = [] := by
  unfold prs
  cases D[0]? <;> rfl
theorem prs_col {D : List Str} {i j : Nat} {x y : Str} (hi : D[i]? = some x) (hj : D[j]? = some y) : prs D i (j + 1) = prs D i j ++ [(x, y)] := by
  unfold prs
  rw [hi, List.take_add_one, hj]
  simp
theorem prs_row {D : List Str} {i : Nat} (hi : i < D.length) : prs D i D.length = prs D (i + 1) 0 := by
  unfold prs
  have e : D[i]? = some D[i] := List.getElem?_eq_getElem hi
  have e1 : D.take (i + 1) = D.take i ++ [D[i]] := by
    rw [List.take_add_one, e]
    rfl
  rw [e, e1, List.take_length, List.flatMap_append]
  cases D[i + 1]? <;> simp
theorem prs_mem {D : List Str} {i j : Nat} {q : Str × Str} (h : q ∈ prs D i j) : q.1 ∈ D ∧ q.2 ∈ D := by
  unfold prs at h
  rcases List.mem_append.mp h with h | h
  · obtain ⟨x, hx, hq⟩ := List.mem_flatMap.mp h
    obtain ⟨y, hy, rfl⟩ := List.mem_map.mp hq
    exact ⟨List.mem_of_mem_take hx, hy⟩
  · obtain ⟨x, hx, hq⟩ := List.mem_flatMap.mp h
    obtain ⟨y, hy, rfl⟩ := List.mem_map.mp hq
    exact ⟨List.mem_of_getElem? (Option.mem_toList.mp hx), List.mem_of_mem_take hy⟩
theorem prs_all {D : List Str} {x y : Str} (hx : x ∈ D) (hy : y ∈ D) : (x, y) ∈ prs D D.length 0 := by
  unfold prs
  rw [List.take_length]
  exact List.mem_append_left _ (List.mem_flatMap.mpr ⟨x, hx, List.mem_map.mpr ⟨y, hy, rfl⟩⟩)
theorem prs_len {D : List Str} (h : D.length ≤ 7) (i j : Nat) (hi : i ≤ D.length) : (prs D i j).length ≤ 100 := by
  unfold prs
  rw [List.length_append, List.length_flatMap, List.length_flatMap]
  have a : ((D.take i).map fun x => (D.map fun y => (x, y)).length).sum ≤ ((D.take i).map fun x => (D.map fun y => (x, y)).length).length * 7 := sum_le fun n hn => by
    obtain ⟨x, _, rfl⟩ := List.mem_map.mp hn
    rw [List.length_map]
    exact h
  have b : ((D[i]?).toList.map fun x => ((D.take j).map fun y => (x, y)).length).sum ≤ ((D[i]?).toList.map fun x => ((D.take j).map fun y => (x, y)).length).length * 7 := sum_le fun n hn => by
    obtain ⟨x, _, rfl⟩ := List.mem_map.mp hn
    rw [List.length_map, List.length_take]
    omega
  rw [List.length_map, List.length_take] at a
  rw [List.length_map] at b
  have c : (D[i]?).toList.length ≤ 1 := by
    cases D[i]? with
    | none => exact Nat.zero_le _
    | some x => exact Nat.le_refl _
  omega
theorem Par.dic {D : List Str} {f : Str → Str → V} {kvs : List (List Key × V)} (h : Par (prs D D.length 0) f kvs) (l7 : D.length ≤ 7) : Dic D f kvs := by
  refine ⟨?_, fun x hx y hy => h.val (x, y) (prs_all hx hy), fun q hq => ?_⟩
  · have := h.len
    have := prs_len l7 D.length 0 (Nat.le_refl _)
    omega
  · obtain ⟨s, hs, e⟩ := h.key q hq
    exact ⟨s.1, (prs_mem hs).1, s.2, (prs_mem hs).2, e⟩
/-- costs at d and chains at e, all else as in H -/
structure Hold (H : Hp) (d e : Addr) (D : List Str) (s : Fn Str × Fw.Cn Str) (H' : Hp) : Prop where
  f : DFn H' d D s.1
  c : CFn H' e D s.2
  k : Same H H'
theorem same_new {H : Hp} {b : Addr} {o : HO} (h : H b = none) : Same H (upd H b o) := fun c u e => by
  rw [upd_ne (ne_of_none e h)]
  exact e
theorem Hold.new {H H' : Hp} {d e b : Addr} {D : List Str} {s : Fn Str × Fw.Cn Str} {o : HO} (h : Hold H d e D s H') (hb : H' b = none) : Hold H d e D s (upd H' b o) :=
  have s1 : Same H' (upd H' b o) := same_new hb
  ⟨h.f.same s1, h.c.same s1, h.k.trans s1⟩
theorem CFn.beside {H : Hp} {d e : Addr} {D : List Str} {c : Fw.Cn Str} {kvs : List (List Key × V)} {o : HO} (h : CFn H e D c) (hd : H d = some (.dT kvs)) (ne : e ≠ d) : CFn (upd H d o) e D c := by
  obtain ⟨kv, l, h1, h2, h3⟩ := h
  refine ⟨kv, l, by rw [upd_ne ne]; exact h1, h2, fun x hx y hy => ?_⟩
  have z := h3 x hx y hy
  rw [upd_ne (ne_of z hd (fun z => nomatch z))]
  exact z
/-- a cheaper cost stored -/
theorem Hold.put1 {H H' : Hp} {d e b : Addr} {D : List Str} {s : Fn Str × Fw.Cn Str} {x y : Str} {c : Co} (h : Hold H d e D s H') (nd : H d = none) (ne : d ≠ e) (hx : x ∈ D) (hy : y ∈ D) (hb : H' b = some (.tup [.str x, .str y])) :
    ∃ H2, DPut H' d (.ref b) (oV c) H2 ∧ Hold H d e D (Fw.put s.1 x y c, s.2) H2 := by
  obtain ⟨o, p, f⟩ := h.f.put (c := c) hx hy hb
  obtain ⟨kvs, hd, _⟩ := h.f
  exact ⟨_, p, f, h.c.beside hd ne.symm, fun q u hq => by rw [upd_ne (ne_of_none hq nd)]; exact h.k q u hq⟩
theorem Hold.put2 {H H' : Hp} {d e b l : Addr} {D : List Str} {s : Fn Str × Fw.Cn Str} {x y : Str} {r : List Str} (h : Hold H d e D s H') (ne0 : H e = none) (ne : d ≠ e) (hx : x ∈ D) (hy : y ∈ D) (hb : H' b = some (.tup [.str x, .str y])) (hl : H' l = some (.lst (r.map V.str))) :
    ∃ H2, DPut H' e (.ref b) (.ref l) H2 ∧ Hold H d e D (s.1, Fw.put s.2 x y r) H2 := by
  obtain ⟨o, p, f⟩ := h.c.put hx hy hb hl
  exact ⟨_, p, h.f.keep (fun u hu => by rw [upd_ne ne]; exact hu), f, fun q u hq => by rw [upd_ne (ne_of_none hq ne0)]; exact h.k q u hq⟩
theorem DFn.besideI {H : Hp} {d x C dx : Addr} {D : List Str} {f : Fn Str} {fs : List (Str × V)} {o : HO} (h : DFn H d D f) (hx : H x = some (.ins C dx fs)) : DFn (upd H x o) d D f := by
  obtain ⟨kv, h1, h2⟩ := h
  exact ⟨kv, by rw [upd_ne (ne_of h1 hx (fun z => nomatch z))]; exact h1, h2⟩
theorem CFn.besideI {H : Hp} {d x C dx : Addr} {D : List Str} {c : Fw.Cn Str} {fs : List (Str × V)} {o : HO} (h : CFn H d D c) (hx : H x = some (.ins C dx fs)) : CFn (upd H x o) d D c := by
  obtain ⟨kv, l, h1, h2, h3⟩ := h
  refine ⟨kv, l, by rw [upd_ne (ne_of h1 hx (fun z => nomatch z))]; exact h1, h2, fun a ha b hb => ?_⟩
  have z := h3 a ha b hb
  rw [upd_ne (ne_of z hx (fun z => nomatch z))]
  exact z
theorem DFn.butI {H H' : Hp} {d x C dx : Addr} {D : List Str} {f : Fn Str} {fs : List (Str × V)} (h : DFn H d D f) (hx : H x = some (.ins C dx fs)) (k : ∀ b o, b ≠ x → H b = some o → H' b = some o) : DFn H' d D f := by
  obtain ⟨kv, h1, h2⟩ := h
  exact ⟨kv, k _ _ (ne_of h1 hx (fun z => nomatch z)) h1, h2⟩
theorem CFn.butI {H H' : Hp} {d x C dx : Addr} {D : List Str} {c : Fw.Cn Str} {fs : List (Str × V)} (h : CFn H d D c) (hx : H x = some (.ins C dx fs)) (k : ∀ b o, b ≠ x → H b = some o → H' b = some o) : CFn H' d D c := by
  obtain ⟨kv, l, h1, h2, h3⟩ := h
  exact ⟨kv, l, k _ _ (ne_of h1 hx (fun z => nomatch z)) h1, h2, fun a ha b hb => k _ _ (ne_of (h3 a ha b hb) hx (fun z => nomatch z)) (h3 a ha b hb)⟩
theorem Par.self {S : List (Str × Str)} {f : Str → Str → V} {kvs : List (List Key × V)} (h : Par S f kvs) (x y : Str) : Par (S ++ [(x, y)]) f (putK kvs (kk x y) (f x y)) :=
  (h.put x y (f x y)).congr fun q _ => by
    unfold Fw.put
    split
    · rename_i e
      rw [e.1, e.2]
    · rfl
theorem Par.merge {f : Str → Str → V} : ∀ (S S0 : List (Str × Str)) (kvs : List (List Key × V)), Par S0 f kvs → Par (S0 ++ S) f (mergeT kvs (S.map fun q => (kk q.1 q.2, f q.1 q.2)))
  | [], S0, kvs, h => by rw [List.append_nil]; exact h
  | q :: S, S0, kvs, h => by
    have := Par.merge S (S0 ++ [(q.1, q.2)]) _ (h.self q.1 q.2)
    rw [List.append_assoc] at this
    exact this
theorem Par.dic' {D : List Str} {S : List (Str × Str)} {f : Str → Str → V} {kvs : List (List Key × V)} (h : Par S f kvs) (l : S.length ≤ 1000) (all : ∀ x ∈ D, ∀ y ∈ D, (x, y) ∈ S) (ok : ∀ q ∈ S, q.1 ∈ D ∧ q.2 ∈ D) : Dic D f kvs :=
  ⟨Nat.le_trans h.len l, fun x hx y hy => h.val _ (all x hx y hy), fun q hq => let ⟨s, hs, e⟩ := h.key q hq; ⟨s.1, (ok s hs).1, s.2, (ok s hs).2, e⟩⟩
end Gd

namespace Gd
open PySem PySem.Spec PyProof.Rows L2
/-! ### classes of the text: their methods, their making, isinstance -/
/-- a method as its callers see it -/
structure Dm (P : Program) (w : World) (K : PySem.W.Frag) (mg : Str → Option Value) (base : Heap) (CX : CXT) (k : Nat) (C : Addr) (m : Str) (f : Addr) (fd : FuncData) (ps : List Str) (sp : Sp) : Prop where
  G : FnG P w K mg base CX k f fd ps sp
  c : Cls K C
  me : Meth K C m f
  b : Binds K fd ps []
/-- a class as its callers see it: n values and the keywords ks -/
structure Dn (P : Program) (w : World) (K : PySem.W.Frag) (mg : Str → Option Value) (base : Heap) (CX : CXT) (k : Nat) (x : Str) (C f : Addr) (fd : FuncData) (ps : List Str) (sp : Sp) (n : Nat) (ks : List Str) (gV : List V → List V → List V) : Prop where
  G : FnG P w K mg base CX k f fd ps sp
  mak : Mk K C f
  m : mg x = some (.ref C)
  b : ∃ g, KBn K fd ps (n + 1) ks g gV
def tMethG (C : Addr) (m : Str) (sp : Sp) (E : L2.St → XK) (ta : TE) (t : TA) : TE := fun σ H Q => ta σ H fun x H1 => ∃ a dx fs, x = .ref a ∧ H1 a = some (.ins C dx fs) ∧ fs.lookup m = none ∧ t σ H1 fun vs H2 => sp (x :: vs) H2 Q (E σ)
def tMakeG (C : Addr) (n m : Nat) (sp : Sp) (gV : List V → List V → List V) (E : L2.St → XK) (t tk : TA) : TE := fun σ H Q => t σ H fun vs H1 => tk σ H1 fun zs H2 => vs.length = n ∧ zs.length = m ∧
  ∀ x dx, H2 x = none → H2 dx = none → dx ≠ x → sp (gV (.ref x :: vs) zs) (upd (upd H2 dx (.own x)) x (.ins C dx [])) (fun v H3 => v = .non ∧ Q (.ref x) H3) (E σ)
section
variable {X : Cx} {CX : CXT} {k n : Nat} {f C : Addr} {fd : FuncData} {ps ks : List Str} {sp : Sp} {E : L2.St → XK} {x m : Str} {p pos apos : Pos} {e o : Expr} {es : List Expr} {ta : TE} {t tk : TA} {kws : List Keyword} {gV : List V → List V → List V}
/-- o.m(e, ..) -/
theorem pe_mt {pl : Sem Bool} (D : Dm X.prog X.w X.K X.mg X.base CX k C m f fd ps sp) (hc : Clean X.A) (hr : Room k X.A) (hx : ∀ σ, PassesAt CX X σ (E σ)) (he : PE X o ta) (ha : PA X (e :: es) t)
    (hst : starEach (e :: es) X.env = (false, eval e X.env) :: starEach es X.env := by rfl) (hpl : (backTo pos (starEach es X.env)).any (·.1) = false := by rfl)
    (ht : eval (.Call (.Attribute o m apos) (e :: es) [] pos) X.env = (do
      let ov ← eval o X.env
      standAt apos.atName
      let (f, first) ← holding [ov] (getMethod ov m pl)
      callWith pos f first (backTo pos (starEach (e :: es) X.env)) (backToKw pos (keywordEach [] X.env))) := by rfl) :
    PE X (.Call (.Attribute o m apos) (e :: es) [] pos) (tMethG C m sp E ta t) := by
  refine ⟨fun pins s σ H Q I h => PySem.W.methodCall_KW (pl := pl) (thn (he.run pins s σ H _ I h) ?_) ht⟩
  rintro u s1 ⟨_, H1, I1, rx, a, dx, fs, rfl, ea, l, q⟩
  cases (show u = Value.ref a from rx)
  refine getmeth_ok I1 ea D.c D.me l (PySem.W.callWith_K (first := [.ref a]) (h₀ := X.base) I1.ok.mod.kin D.me.kp (thn (ha.run pos pins s1 σ H1 _ I1 q) ?_) hst hpl)
  rintro us s2 ⟨vs, H2, I2, r, q2⟩
  refine ⟨I2.kIn, ?_⟩
  have q3 : sp ((.ref a :: vs) ++ []) H2 Q (E σ) := by rw [List.append_nil]; exact q2
  exact runC (us := .ref a :: us) (vs := .ref a :: vs) D.G hc hr D.b .nil (hx σ) I2 (.cons rfl r) q3
/-- o.m() -/
theorem pe_mt0 {pl : Sem Bool} (D : Dm X.prog X.w X.K X.mg X.base CX k C m f fd ps sp) (hc : Clean X.A) (hr : Room k X.A) (hx : ∀ σ, PassesAt CX X σ (E σ)) (he : PE X o ta)
    (ht : eval (.Call (.Attribute o m apos) [] [] pos) X.env = (do
      let ov ← eval o X.env
      standAt apos.atName
      let (f, first) ← holding [ov] (getMethod ov m pl)
      callWith pos f first (backTo pos (starEach [] X.env)) (backToKw pos (keywordEach [] X.env))) := by rfl) :
    PE X (.Call (.Attribute o m apos) [] [] pos) (tMethG C m sp E ta tNil) := by
  refine ⟨fun pins s σ H Q I h => PySem.W.methodCall_KW (pl := pl) (thn (he.run pins s σ H _ I h) ?_) ht⟩
  rintro u s1 ⟨_, H1, I1, rx, a, dx, fs, rfl, ea, l, q⟩
  cases (show u = Value.ref a from rx)
  refine getmeth_ok I1 ea D.c D.me l (PySem.W.callWith_K0 (first := [.ref a]) I1.kIn D.me.kp ?_)
  exact runC (us := [.ref a]) (vs := [.ref a]) D.G hc hr D.b .nil (hx σ) I1 (.cons rfl .nil) q
theorem run_new {g : List Value → List Value → List Value} {pins : List (Addr × Obj)} {σ : L2.St} {H : Hp} {s : Shared} {Q : VK} {us ws : List Value} {vs zs : List V} (M : Mk X.K C f) (F : FnG X.prog X.w X.K X.mg X.base CX k f fd ps sp) (hc : Clean X.A) (hr : Room (k + 1) X.A)
    (hb : KBn X.K fd ps (n + 1) ks g gV) (hx : PassesAt CX X σ (E σ)) (I : Inv X pins σ H s) (r : Vals vs us) (rz : Vals zs ws) (l1 : vs.length = n) (l2 : zs.length = ks.length)
    (h : ∀ x dx, H x = none → H dx = none → dx ≠ x → sp (gV (.ref x :: vs) zs) (upd (upd H dx (.own x)) x (.ins C dx [])) (fun v H2 => v = .non ∧ Q (.ref x) H2) (E σ)) :
    wpAny (model X.prog X.w) X.A (call (.ref C) us (ks.zip ws)) (EP X pins σ Q) X.xe s := by
  have q0 := h (s.heap.objs.size + 1) s.heap.objs.size (I.hok.fresh (Nat.le_succ _)) (I.hok.fresh (Nat.le_refl _)) (Nat.ne_of_lt (Nat.lt_succ_self _))
  have J := Inv.made (C := C) I
  have rs : Vals (V.ref (s.heap.objs.size + 1) :: vs) (Value.ref (s.heap.objs.size + 1) :: us) := .cons rfl r
  have n1 : (Value.ref (s.heap.objs.size + 1) :: us).length = n + 1 := by rw [List.length_cons, ← r.length, l1]
  refine wpAny_call (make_map (f := f) I.kIn M.makes M.init (beq_iff_eq.mp M.fn) (codeAny_mono (F.run _ X.stack _ _ ⟨Value.ref (s.heap.objs.size + 1) :: us, ks.zip ws⟩ (g (Value.ref (s.heap.objs.size + 1) :: us) ws) _ _ (E σ) hc (hr.make C us (ks.zip ws))
    (J.env0.make C us (ks.zip ws)) (hb.to _ _ ws J.kIn n1 (rz.length.symm.trans l2)) (hb.rel rs rz) q0) fun r s' hq => ?_))
  have z := endC hx J hq
  match r, z with
  | .error e, z => exact z
  | .ok (.ret u), z =>
    obtain ⟨v, H', J2, rv, rfl, q1⟩ := z
    exact ⟨rv, V.ref (s.heap.objs.size + 1), H', J2, rfl, q1⟩
  | .ok .next, z => exact False.elim z
  | .ok .brk, z => exact False.elim z
  | .ok .cont, z => exact False.elim z
/-- C(e, .., k = v, ..) -/
theorem pe_nk (D : Dn X.prog X.w X.K X.mg X.base CX k x C f fd ps sp n ks gV) (hc : Clean X.A) (hr : Room (k + 1) X.A) (hg : Gl X x) (hx : ∀ σ, PassesAt CX X σ (E σ)) (ha : PA X (e :: es) t) (hkw : PK X kws tk)
    (hall : (backToKw pos (keywordEach kws X.env)).all (·.1.isSome) = true := by rfl) (hks : (backToKw pos (keywordEach kws X.env)).filterMap (·.1) = ks := by rfl) (hdb : (x == ("__debug__" : Str)) = false := by decide)
    (he : starEach (e :: es) X.env = (false, eval e X.env) :: starEach es X.env := by rfl)
    (hpl : ((backTo pos (starEach (e :: es) X.env)).any (·.1) || (backToKw pos (keywordEach kws X.env)).any (·.1.isNone)) = false := by rfl) :
    PE X (.Call (.Name x p) (e :: es) kws pos) (tMakeG C n ks.length sp gV E t tk) := by
  obtain ⟨g, hb⟩ := D.b
  refine ⟨fun pins s σ H Q I h => wpAny_Call_Name_kw (ld_glob I hg D.m ?_ hdb)⟩
  refine PySem.W.callWith_KW (h₀ := X.base) I.ok.mod.kin D.mak.kp hall (thn (ha.run pos pins s σ H _ I h) ?_) hpl he
  rintro us s1 ⟨vs, H1, I1, r, q⟩
  refine thn (hkw.run pos pins s1 σ H1 _ I1 q) ?_
  rintro ws s2 ⟨zs, H2, I2, rz, l1, l2, q2⟩
  refine ⟨I2.kIn, ?_⟩
  rw [hks]
  exact run_new D.mak D.G hc hr hb (hx σ) I2 r rz l1 l2 q2
/-- C(e, ..) -/
theorem pe_n (D : Dn X.prog X.w X.K X.mg X.base CX k x C f fd ps sp n [] gV) (hc : Clean X.A) (hr : Room (k + 1) X.A) (hg : Gl X x) (hx : ∀ σ, PassesAt CX X σ (E σ)) (ha : PA X (e :: es) t) (hdb : (x == ("__debug__" : Str)) = false := by decide)
    (he : starEach (e :: es) X.env = (false, eval e X.env) :: starEach es X.env := by rfl) (hpl : (backTo pos (starEach es X.env)).any (·.1) = false := by rfl) :
    PE X (.Call (.Name x p) (e :: es) [] pos) (tMakeG C n 0 sp gV E t tNil) := by
  obtain ⟨g, hb⟩ := D.b
  refine ⟨fun pins s σ H Q I h => wpAny_Call_Name_kw (ld_glob I hg D.m ?_ hdb)⟩
  refine PySem.W.callWith_K (h₀ := X.base) I.ok.mod.kin D.mak.kp (thn (ha.run pos pins s σ H _ I h) ?_) he hpl
  rintro us s1 ⟨vs, H1, I1, r, l1, l2, q⟩
  exact ⟨I1.kIn, run_new (ks := []) (ws := []) D.mak D.G hc hr hb (hx σ) I1 r .nil l1 rfl q⟩
end
/-- what isinstance asks of a class of the text -/
structure ClsT (K : PySem.W.Frag) (C : Addr) : Prop where
  c : Cls K C
  ha : PySem.W.findIn K (.ref C) "__class__" = some (some (.builtin "object.__class__"))
  hn : PySem.W.specialIn K (.builtin "object.__class__") "__get__" = some (some (.builtin "getset_descriptor.__get__"))
  htk : PySem.W.takesIn K (.builtin "object.__class__") = some true
  hm : PySem.W.mroIn K C (.type "object") = some true
  no : ∀ k : Kind, k ≠ .odd → PySem.W.kitOne K (.type k.name) (.ref C) = some false
theorem kinds_no {K : PySem.W.Frag} {C : Addr} (h1 : PySem.W.kitOne K (.type "NoneType") (.ref C) = some false) (h2 : PySem.W.kitOne K (.type "bool") (.ref C) = some false) (h3 : PySem.W.kitOne K (.type "int") (.ref C) = some false)
    (h4 : PySem.W.kitOne K (.type "str") (.ref C) = some false) (h5 : PySem.W.kitOne K (.type "list") (.ref C) = some false) (h6 : PySem.W.kitOne K (.type "tuple") (.ref C) = some false) (h7 : PySem.W.kitOne K (.type "dict") (.ref C) = some false) :
    ∀ k : Kind, k ≠ .odd → PySem.W.kitOne K (.type k.name) (.ref C) = some false := by
  intro k h
  cases k with
  | non => exact h1
  | bl => exact h2
  | int => exact h3
  | str => exact h4
  | lst => exact h5
  | tup => exact h6
  | dct => exact h7
  | odd => exact absurd rfl h
section
variable {X : Cx} {C : Addr}
/-- isinstance(x, C), C a class of the text -/
theorem call_isC (T : ClsT X.K C) : CallR X (.builtin "isinstance") (fun xs H Q => ∃ x, xs = [x, .ref C] ∧ ((Pv H x ∧ Q (.bl false) H) ∨ (∃ a dx fs, x = .ref a ∧ H a = some (.ins C dx fs) ∧ Q (.bl true) H))) := by
  intro pins s σ H xs us Q I r h
  obtain ⟨x, rfl, h⟩ := h
  rcases h with ⟨hv, q⟩ | ⟨a, dx, fs, rfl, ha, q⟩
  · exact call_isi pins s σ H _ us Q I r ⟨x, .ref C, _, _, _, rfl, .own C, kind_ty hv, T.no _ hv, q⟩
  · refine call_isi pins s σ H _ us Q I r ⟨.ref a, .ref C, _, _, _, rfl, .own C, .base (.ins ha T.c T.ha T.hn T.htk T.hm), ?_, q⟩
    show (if (Value.ref C == Value.ref C) = true then some true else _) = some true
    rw [if_pos (by simp)]
/-- isinstance(x, dict), also of a dict whose keys are tuples -/
theorem call_isD : CallR X (.builtin "isinstance") (fun xs H Q => ∃ x, xs = [x, .ty "dict"] ∧ ((Pv H x ∧ Q (.bl (inst "dict" (kind H x))) H) ∨ (∃ a kvs, x = .ref a ∧ H a = some (.dT kvs) ∧ Q (.bl true) H))) := by
  intro pins s σ H xs us Q I r h
  obtain ⟨x, rfl, h⟩ := h
  rcases h with ⟨hv, q⟩ | ⟨a, kvs, rfl, ha, q⟩
  · exact call_isk pins s σ H _ us Q I r ⟨x, "dict", rfl, by decide, hv, q⟩
  · exact call_isi pins s σ H _ us Q I r ⟨.ref a, .ty "dict", _, _, _, rfl, .ty "dict", .base (.dT ha), kit_ty (by decide +kernel), q⟩
end
end Gd

namespace Gd
open PySem PySem.Spec PyProof.Rows L2
section
variable {P : Program} {w : World} {A : Around} {E : Value → Shared → Prop} {s : Shared}
theorem sub_str_set : isSubtype (.type "str") (.type "set") = pure false := by rw [isSubtype_type]; kernel_rfl
theorem sub_str_frozen : isSubtype (.type "str") (.type "frozenset") = pure false := by rw [isSubtype_type]; kernel_rfl
theorem sign_get {x : Str} {i : Nat} {v : Value} (h : SignAt x i v) : ∃ t, v = .str ((signs x).getD i Str.empty) t := by
  obtain ⟨c, u, q1, q2⟩ := h
  refine ⟨u, q2.trans ?_⟩
  have e : (signs x)[i]? = some ⟨#[c]⟩ := by
    show (x.cps.toList.map _)[i]? = _
    rw [List.getElem?_map, Array.getElem?_toList, q1]
    rfl
  rw [List.getD_eq_getElem?_getD, e]
  rfl
/-- set(x), x a text -/
theorem set_S {x : Str} {t : Tok} {Q : Value → Shared → Prop} (hd : A.handled = none) (hb : x.length + 1 < scanBound)
    (h : ∀ (h' : Heap) (tk : Nat), SetT P w h' s.heap.objs.size (memW (signs x)) → (∀ c o, s.heap.get? c = some o → h'.get? c = some o) → Q (.ref s.heap.objs.size) { s with heap := h', toks := tk }) :
    wpAny (model P w) A (call (.type "set") [.str x t]) Q E s := by
  obtain ⟨c0, c1, c2⟩ := PySem.F.called_set.mro
  have c3 := PySem.F.called_set.made
  have c4 := PySem.F.called_set.sub
  have c5 := PySem.F.called_set.notType
  have c6 := PySem.F.called_set.canCreate
  have c7 := PySem.F.typeCall_set_1 (.str x t)
  apply wpAny_call
  apply codeAny_of_tree
  show wpAny _ _ (callAny (.type "set") _) _ _ _
  refine wpAny_pure ⟨Code.quiet_builtin _ (by decide +kernel), ?_⟩
  apply codeAny_builtin PySem.F.entry_type_call
  rw [Around.under_plain (weight_type_call_type "set" [.str x t] []) rfl]
  repeat (any_goals (first | assumption | wp_step))
  refine codeAny_mono (made_T (.str x t) (E := E) (Q := fun v s1 => v = .ref s.heap.objs.size ∧ s1 = { s with heap := s.heap.push (bare w) }) ⟨rfl, rfl⟩) fun r s1 hr => ?_
  rcases r with e | fl
  · exact hr
  rcases fl with _ | v | _ | _
  case ret =>
    obtain ⟨rfl, rfl⟩ := hr
    have born : (s.heap.push (bare w)).get? s.heap.objs.size = some (bare w) := Heap.get?_push_size _ rfl
    have kind : Shared.TypeIs { s with heap := s.heap.push (bare w) } (.ref s.heap.objs.size) "set" := ⟨_, born, rfl⟩
    have c8 := PySem.F.called_set.init.lookup
    have c9 := PySem.F.called_set.init.bind (.ref s.heap.objs.size)
    repeat (any_goals (first | assumption | wp_step))
    refine codeAny_mono (codeAny_call_builtin (R := wants (fun r s2 => r = .none ∧ ∃ h' tk, s2 = { s with heap := h', toks := tk } ∧ SetT P w h' s.heap.objs.size (memW (signs x)) ∧ ∀ c o, s.heap.get? c = some o → h'.get? c = some o) E)
      PySem.F.called_set.init.plain PySem.F.entry_set_init (check_set_init_1 kind ?_)) fun r2 s2 hr2 => ?_
    · have e1 := sub_str_set
      have e2 := sub_str_frozen
      have e3 : (Value.type "str" == Value.type "dict") = false := by decide
      unfold Builtin.«set.__init__» noKeywords Builtin.Frozenset.updateFrom
      generalize hold : pyIter = held
      wp_walk
      subst hold
      refine wpAny_pyIter_str fun o St W hst => ?_
      apply wpAny_bind
      apply wpAny_runValue
      have free : A.in1.in1.in1.handled = none := by simp [hd]
      have size1 : (s.heap.push (bare w)).objs.size = s.heap.objs.size + 1 := Heap.size_push _ _
      have alone : s.heap.objs.size ∉ [(s.heap.push (bare w)).objs.size] := by
        rw [size1]
        exact fun z => Nat.ne_of_lt (Nat.lt_succ_self _) (List.mem_singleton.mp z)
      refine loopT (W A.in1.in1.in1 free).toS alone (signs x) (signs_len x) (fun i v hv => sign_get hv) hb x.cps.size 0 _ (Nat.zero_add _) hst (bare_T (Heap.get?_push_of_some _ born)) fun s' mv S => ?_
      have m1 := mv.gens
      have m2 := mv.drawn
      have m3 := mv.os
      have m4 := mv.heap
      cases s' with
      | mk h' g' d' tk' os' =>
        have m1 : g' = s.gens := m1
        have m2 : d' = s.drawn := m2
        have m3 : os' = s.os := m3
        subst m1 m2 m3
        apply wpAny_pure
        show wpAny _ _ (ret Value.none) _ _ _
        refine wpAny_pure ⟨rfl, h', tk', rfl, S, fun c o z => ?_⟩
        have cs : c < s.heap.objs.size := Heap.lt_size z
        refine m4 c o (fun y => ?_) (Heap.get?_push_of_some _ (Heap.get?_push_of_some _ z))
        rcases List.mem_cons.mp y with y | y
        · exact Nat.ne_of_lt cs y
        · have y := List.mem_singleton.mp y
          rw [size1] at y
          exact Nat.ne_of_lt (Nat.lt_succ_of_lt cs) y
    · rcases r2 with e | fl
      · exact hr2
      rcases fl with _ | v | _ | _
      case ret =>
        obtain ⟨rfl, h', tk, rfl, S, k⟩ := hr2
        repeat (any_goals (first | assumption | wp_step))
        exact h h' tk S k
      all_goals exact hr2.elim
  all_goals exact hr.elim
end
section
variable {X : Cx}
/-- set(a text) -/
theorem cr_setX (hc : X.calm = true) : CallR X (.type "set") (fun vs H Q => ∃ x : Str, vs = [.str x] ∧ x.length + 1 < 4096 ∧ ∀ p, H p = none → Q (.ref p) (upd H p (SetW X.prog X.w p (memW (signs x))))) := by
  intro pins s σ H vs us Q I r h
  obtain ⟨x, rfl, hl, q⟩ := h
  obtain ⟨u, rfl, rx⟩ := vals1 r
  obtain ⟨t, rfl⟩ : ∃ t, u = Value.str x t := rx
  refine set_S (I.ok.hd hc) (by unfold scanBound; omega) fun h' tk S k => ?_
  exact ⟨.ref s.heap.objs.size, upd H s.heap.objs.size (SetW X.prog X.w s.heap.objs.size (memW (signs x))), I.laid (t' := tk) (fun c o e => k c o e) (Nat.le_refl _) (setW_ok S), rfl, q _ (I.hok.fresh (Nat.le_refl _))⟩
/-- len(a set of texts) -/
theorem call_lenW : CallR X (.builtin "len") (fun xs H Q => ∃ (D : Addr) (l : List Str), xs = [.ref D] ∧ H D = some (SetW X.prog X.w D l) ∧ l.length < 4096 ∧ Q (.int (l.length : Nat)) H) := by
  intro pins s σ H xs us Q I r q
  obtain ⟨D, l, rfl, hD, hl, q⟩ := q
  obtain ⟨u, rfl, rx⟩ := vals1 r
  cases rx
  have S : SetT X.prog X.w s.heap D l := (I.hok D _ hD).1
  obtain ⟨⟨es, ep, t⟩, d1, F, _⟩ := S
  have fit : t.fits es.size = true := F.fit
  have size : es.size = l.length := F.sz
  refine call_len_set d1 ⟨rfl, rfl, rfl⟩ rfl fit (by rw [size]; omega) ⟨.int l.length, H, I.tok _, ⟨_, by rw [size]⟩, q⟩
end
end Gd

namespace Gd
open PySem PySem.Spec PyProof.Rows L2
/-! ### {k: v for .. in ..} and {k: v for .. in .. for .. in ..} whose keys are tuples -/
section
variable {X : Cx}
theorem dict_put {pn : List (Addr × Obj)} {σ : L2.St} {H : Hp} {s : Shared} {E : Value → Shared → Prop} {D b : Addr} {kvs : List (List Key × V)} {k : List Key} {v : V} {u r : Value} {Q : Unit → Shared → Prop} (hu : X.A.units + 1 < cLine) (I : Inv X pn σ H s)
    (hD : H D = some (.dT kvs)) (eb : H b = some (.tup (k.map kV))) (hz : kvs.length < sizeLine) (ry : RelV (.ref b) u) (rv : RelV v r) (h : ∀ s', Inv X pn σ (upd H D (.dT (putK kvs k v))) s' → Q () s') :
    wpAny (model X.prog X.w) X.A (dictSet D u r) Q E s := by
  cases (show u = Value.ref b from ry)
  obtain ⟨z, hd, xs, rel, dd⟩ := dt_of I.hok hD
  have hzx : xs.length ≤ sizeLine := by rw [← Paired.length rel]; exact z
  have hl : (putK kvs k v).length ≤ sizeLine := by
    have := length_putK kvs k v
    omega
  refine wpAny_dictSet_heap (hsz := hzx) (show X.A.units < cLine by omega) (key_of I.hok eb) dd fun h1 dd1 hs => h _ ?_
  obtain ⟨q, es, ep, hq, h2, h3, h4, _, h5⟩ := dd1
  refine d_write I (by rw [hD]; exact True.intro) hs ⟨q, hq⟩ ⟨hl, hd, _, (rel.put k eb rv).keeps fun c ys ec => ?_, q, es, ep, hq, h2, h3, h4, h5⟩
  rw [upd_ne (ne_of ec hD (fun z => nomatch z))]
  exact ec
end
section
variable {prog : Program} {w : World} {A : Around} {R : Result → Shared → Prop} {s : Shared} {kx vx t0 i0 t1 i1 : Expr} {ifs0 ifs1 : List Expr} {scope : Scope} {pos : Pos} {it : Value} {D : Addr} {env : Env}
theorem turnD_out : compTurn (.DictComp kx vx [⟨t0, i0, ifs0, 0⟩, ⟨t1, i1, ifs1, 0⟩] scope pos) 0 it (.ref D) env = (do
      standAt i0.pos
      match ← pyNext it with
      | none => pure (.done .next)
      | some v =>
        letOwnedTupleGo t0 it v
        assign t0 env v
        let mut ok := true
        for cd in ifs0 do
          if ok then ok ← isTrue cd env (eval cd env)
        if ok then
          let x ← eval i1 env
          standAt i1.pos
          let x ← foldedSetIterable i1 env x
          let _ ← runOwn (.compStart (.DictComp kx vx [⟨t0, i0, ifs0, 0⟩, ⟨t1, i1, ifs1, 0⟩] scope pos) 1 (← holding [x] (pyIter x)) (.ref D) env) env
        again (.compLoop (.DictComp kx vx [⟨t0, i0, ifs0, 0⟩, ⟨t1, i1, ifs1, 0⟩] scope pos) 0 it (.ref D) env)) := by rfl
abbrev ErrTo (prog : Program) (w : World) (A : Around) (env : Env) (R : Result → Shared → Prop) : Value → Shared → Prop := notedBy (model prog w) A env fun e s' => R (.error e) s'
/-- what one item's store and tests ask -/
abbrev Drawn (prog : Program) (w : World) (A : Around) (env : Env) (tg : Expr) (ifs : List Expr) (it v : Value) (R : Result → Shared → Prop) (yes no : Shared → Prop) (s : Shared) : Prop :=
  wpAny (model prog w) A (letOwnedTupleGo tg it v) (fun _ s1 => wpAny (model prog w) A (assign tg env v) (fun _ s2 =>
    wpAny (model prog w) A (forIn ifs true fun c r => if r = true then do let ok ← isTrue c env (eval c env); pure (ForInStep.yield ok) else pure (ForInStep.yield r)) (fun ok s3 => if ok = true then yes s3 else no s3)
      (ErrTo prog w A env R) s2) (ErrTo prog w A env R) s1) (ErrTo prog w A env R) s
theorem loopD_out (hs : ∀ x, foldedSetIterable i1 env x = pure x) (I : Nat → Shared → Prop)
    (turn : ∀ n s, I n s → wpAny (model prog w) A (pyNext it) (fun r s1 => match r with
      | none => R (.ok .next) s1
      | some v => Drawn prog w A env t0 ifs0 it v R (fun s3 => wpAny (model prog w) A (eval i1 env) (fun x s4 => wpAny (model prog w) A (pyIter x) (fun it1 s5 =>
          codeAny (model prog w) A (.compStart (.DictComp kx vx [⟨t0, i0, ifs0, 0⟩, ⟨t1, i1, ifs1, 0⟩] scope pos) 1 it1 (.ref D) env) (fun r s' => match r with
            | .ok _ => ∃ m, m < n ∧ I m s'
            | .error _ => False) s5) (ErrTo prog w A env R) s4) (ErrTo prog w A env R) s3) (fun s3 => ∃ m, m < n ∧ I m s3) s1) (ErrTo prog w A env R) s)
    (n : Nat) (h : I n s) : codeAny (model prog w) A (.compLoop (.DictComp kx vx [⟨t0, i0, ifs0, 0⟩, ⟨t1, i1, ifs1, 0⟩] scope pos) 0 it (.ref D) env) R s := by
  refine codeAny_loop rfl I (fun n s hI => ?_) n h
  show wpAny _ A ((compTurn (.DictComp kx vx [⟨t0, i0, ifs0, 0⟩, ⟨t1, i1, ifs1, 0⟩] scope pos) 0 it (.ref D) env).onRaise (fun x => do noteFrame x env; theTreesLotGoes x)) _ _ s
  refine wpAny_noted ?_
  rw [turnD_out]
  refine wpAny_bind (wpAny_standAt (wpAny_bind (wpAny_mono (turn n s hI) ?_ fun _ _ z => z)))
  intro r s1 h1
  match r, h1 with
  | none, h1 => exact wpAny_pure h1
  | some v, h1 =>
    refine wpAny_bind (wpAny_mono h1 (fun _ s2 h2 => ?_) fun _ _ z => z)
    refine wpAny_bind (wpAny_mono h2 (fun _ s3 h3 => ?_) fun _ _ z => z)
    refine wpAny_bind (wpAny_mono h3 (fun ok s4 h4 => ?_) fun _ _ z => z)
    match ok, h4 with
    | false, h4 => exact wpAny_pure ⟨rfl, h4⟩
    | true, h4 =>
      refine wpAny_bind (wpAny_mono h4 (fun x s5 h5 => ?_) fun _ _ z => z)
      refine wpAny_bind (wpAny_standAt (wpAny_bind (wpAny_of_eq (hs x) (wpAny_bind (wpAny_holding (wpAny_mono h5 (fun it1 s6 h6 => ?_) fun _ _ z => z))))))
      refine wpAny_bind (wpAny_runOwn ?_)
      rw [Around.mark_none]
      refine codeAny_mono h6 fun r s' hr => ?_
      match r, hr with
      | .error e, hr => exact hr.elim
      | .ok f, hr => first | exact wpAny_pure ⟨rfl, hr⟩ | exact wpAny_bind (wpAny_pure (wpAny_pure ⟨rfl, hr⟩))
theorem turnD_in : compTurn (.DictComp kx vx [⟨t0, i0, ifs0, 0⟩, ⟨t1, i1, ifs1, 0⟩] scope pos) 1 it (.ref D) env = (do
      standAt i1.pos
      match ← pyNext it with
      | none => pure (.done .next)
      | some v =>
        letOwnedTupleGo t1 it v
        assign t1 env v
        let mut ok := true
        for cd in ifs1 do
          if ok then ok ← isTrue cd env (eval cd env)
        if ok then
          (do let kv ← eval kx env; let vv ← holding [kv] (eval vx env); standAt { kx.pos with endLine := vx.pos.endLine, endCol := vx.pos.endCol }; holding [kv, vv] (dictSet D kv vv))
        again (.compLoop (.DictComp kx vx [⟨t0, i0, ifs0, 0⟩, ⟨t1, i1, ifs1, 0⟩] scope pos) 1 it (.ref D) env)) := by rfl
/-- key, value, the store -/
abbrev Stored (prog : Program) (w : World) (A : Around) (env : Env) (kx vx : Expr) (D : Addr) (R : Result → Shared → Prop) (fin : Shared → Prop) (s : Shared) : Prop :=
  wpAny (model prog w) A (eval kx env) (fun kv s1 => wpAny (model prog w) A (eval vx env) (fun vv s2 => wpAny (model prog w) A (dictSet D kv vv) (fun _ s3 => fin s3) (ErrTo prog w A env R) s2) (ErrTo prog w A env R) s1) (ErrTo prog w A env R) s
theorem loopD_in (I : Nat → Shared → Prop)
    (turn : ∀ n s, I n s → wpAny (model prog w) A (pyNext it) (fun r s1 => match r with
      | none => R (.ok .next) s1
      | some v => Drawn prog w A env t1 ifs1 it v R (Stored prog w A env kx vx D R fun s' => ∃ m, m < n ∧ I m s') (fun s3 => ∃ m, m < n ∧ I m s3) s1) (ErrTo prog w A env R) s)
    (n : Nat) (h : I n s) : codeAny (model prog w) A (.compLoop (.DictComp kx vx [⟨t0, i0, ifs0, 0⟩, ⟨t1, i1, ifs1, 0⟩] scope pos) 1 it (.ref D) env) R s := by
  refine codeAny_loop rfl I (fun n s hI => ?_) n h
  show wpAny _ A ((compTurn (.DictComp kx vx [⟨t0, i0, ifs0, 0⟩, ⟨t1, i1, ifs1, 0⟩] scope pos) 1 it (.ref D) env).onRaise (fun x => do noteFrame x env; theTreesLotGoes x)) _ _ s
  refine wpAny_noted ?_
  rw [turnD_in]
  refine wpAny_bind (wpAny_standAt (wpAny_bind (wpAny_mono (turn n s hI) ?_ fun _ _ z => z)))
  intro r s1 h1
  match r, h1 with
  | none, h1 => exact wpAny_pure h1
  | some v, h1 =>
    refine wpAny_bind (wpAny_mono h1 (fun _ s2 h2 => ?_) fun _ _ z => z)
    refine wpAny_bind (wpAny_mono h2 (fun _ s3 h3 => ?_) fun _ _ z => z)
    refine wpAny_bind (wpAny_mono h3 (fun ok s4 h4 => ?_) fun _ _ z => z)
    match ok, h4 with
    | false, h4 => exact wpAny_pure ⟨rfl, h4⟩
    | true, h4 =>
      refine wpAny_bind (wpAny_bind (wpAny_mono h4 (fun kv s5 h5 => ?_) fun _ _ z => z))
      refine wpAny_bind (wpAny_holding (wpAny_mono h5 (fun vv s6 h6 => ?_) fun _ _ z => z))
      exact wpAny_bind (wpAny_standAt (wpAny_holding (wpAny_mono h6 (fun _ s7 h7 => wpAny_pure ⟨rfl, h7⟩) fun _ _ z => z)))
theorem loopD_one {rest : List Comprehension} (I : Nat → Shared → Prop)
    (turn : ∀ n s, I n s → wpAny (model prog w) A (pyNext it) (fun r s1 => match r with
      | none => R (.ok .next) s1
      | some v => Drawn prog w A env t0 ifs0 it v R (Stored prog w A env kx vx D R fun s' => ∃ m, m < n ∧ I m s') (fun s3 => ∃ m, m < n ∧ I m s3) s1) (ErrTo prog w A env R) s)
    (n : Nat) (h : I n s) : codeAny (model prog w) A (.compLoop (.DictComp kx vx [⟨t0, i0, ifs0, 0⟩] scope pos) 0 it (.ref D) env) R s :=
  compLoop_anyD I turn n h
theorem startD1 {acc : Value} (h0 : codeAny (model prog w) A (.compLoop (.DictComp kx vx [⟨t0, i0, ifs0, 0⟩, ⟨t1, i1, ifs1, 0⟩] scope pos) 1 it acc env) R s)
    (h : wpAny (model prog w) A (pyIter it) (fun it2 s' => codeAny (model prog w) A (.compLoop (.DictComp kx vx [⟨t0, i0, ifs0, 0⟩, ⟨t1, i1, ifs1, 0⟩] scope pos) 1 it2 acc env) R s') (ErrTo prog w A env R) s) :
    codeAny (model prog w) A (.compStart (.DictComp kx vx [⟨t0, i0, ifs0, 0⟩, ⟨t1, i1, ifs1, 0⟩] scope pos) 1 it acc env) R s := by
  refine codeAny_of_tree ?_
  show wpAny _ _ ((compStart (.DictComp kx vx [⟨t0, i0, ifs0, 0⟩, ⟨t1, i1, ifs1, 0⟩] scope pos) 1 it acc env).onRaise (fun x => do noteFrame x env; standAt theWindowsPlace)) _ _ s
  refine wpAny_notedAt ?_
  unfold compStart
  show wpAny _ _ (ask >>= _) _ _ s
  refine wpAny_bind (wpAny_askSetting (wpAny_ite ?_))
  split
  · first
    | exact wpAny_bind (wpAny_pure (wpAny_pure ⟨rfl, h0⟩))
    | exact wpAny_pure ⟨rfl, h0⟩
  · first
    | exact wpAny_bind (wpAny_rule (wpAny_bind (wpAny_standAt (wpAny_bind (wpAny_mono h (fun _ _ z => wpAny_pure ⟨rfl, z⟩) fun _ _ z => z)))))
    | (refine wpAny_bind (wpAny_rule ?_); show wpAny _ _ (standAt i1.pos >>= _) _ _ s; exact wpAny_bind (wpAny_standAt (wpAny_bind (wpAny_mono h (fun _ _ z => wpAny_pure ⟨rfl, z⟩) fun _ _ z => z))))
end
section
variable {X : Cx}
/-- what a store into the new dict at D asks -/
abbrev DPutAt (D : Addr) (tk tv : TE) (σ : L2.St) (H : Hp) (N : Hp → Prop) : Prop := tk σ H fun y H1 => tv σ H1 fun z H2 => ∃ kvs k b, y = .ref b ∧ H2 D = some (.dT kvs) ∧ H2 b = some (.tup (k.map kV)) ∧ kvs.length < sizeLine ∧ N (upd H2 D (.dT (putK kvs k z)))
def tDcT (wi : TI) (g : TG) (tt : TT) (tk tv : TE) (vs : List Nat) : TE := fun σ H Q => wi σ H fun J H1 => ∀ D, H1 D = none → ∃ W : Nat → Nat → Hp → Prop, (∃ m, W 0 m (upd H1 D (.dT []))) ∧ ∀ i m H, W i m H →
  (J.stop i H ∧ Q (.ref D) H) ∨ (J.go i H ∧ ∃ Nx : Hp → Prop, (∀ H', Nx H' → ∃ m', m' < m ∧ W (i + 1) m' H') ∧ ∀ x H', J.yld i H x H' →
    g x (wipe σ vs) H' fun σ2 H2 => wipe σ2 vs = wipe σ vs ∧ tt σ2 H2 fun b H3 => if b = true then DPutAt D tk tv σ2 H3 Nx else Nx H3)
def tDcT2 (wi : TI) (g : TG) (tt : TT) (wi1 : TI) (g1 : TG) (tt1 : TT) (tk tv : TE) (vs vs1 : List Nat) : TE := fun σ H Q => wi σ H fun J H1 => ∀ D, H1 D = none → ∃ W : Nat → Nat → Hp → Prop, (∃ m, W 0 m (upd H1 D (.dT []))) ∧ ∀ i m H, W i m H →
  (J.stop i H ∧ Q (.ref D) H) ∨ (J.go i H ∧ ∃ Nx : Hp → Prop, (∀ H', Nx H' → ∃ m', m' < m ∧ W (i + 1) m' H') ∧ ∀ x H', J.yld i H x H' →
    g x (wipe σ vs) H' fun σ2 H2 => wipe σ2 vs = wipe σ vs ∧ tt σ2 H2 fun b H3 => if b = true then
      wi1 σ2 H3 fun J1 H4 => ∃ W1 : Nat → Nat → Hp → Prop, (∃ m, W1 0 m H4) ∧ ∀ j k H, W1 j k H →
        (J1.stop j H ∧ Nx H) ∨ (J1.go j H ∧ ∃ N1 : Hp → Prop, (∀ H', N1 H' → ∃ k', k' < k ∧ W1 (j + 1) k' H') ∧ ∀ x H', J1.yld j H x H' →
          g1 x (wipe σ2 vs1) H' fun σ3 H5 => wipe σ3 vs1 = wipe σ2 vs1 ∧ tt1 σ3 H5 fun b H6 => if b = true then DPutAt D tk tv σ3 H6 N1 else N1 H6)
      else Nx H3)
theorem put_run {pn : List (Addr × Obj)} {σ : L2.St} {H : Hp} {s : Shared} {kx vx : Expr} {tk tv : TE} {D : Addr} {N : Hp → Prop} {env : Env} {R : Result → Shared → Prop} {fin : Shared → Prop} (hu : X.A.units + 1 < cLine) (pk : PE X kx tk) (pv : PE X vx tv) (I : Inv X pn σ H s)
    (hxe : X.xe = fun _ _ => False) (he : X.env = env) (h : DPutAt D tk tv σ H N) (hf : ∀ s' H', Inv X pn σ H' s' → N H' → fin s') : Stored X.prog X.w X.A env kx vx D R fin s := by
  subst he
  have r1 := pk.run pn s σ H _ I h
  rw [hxe] at r1
  refine thnF r1 ?_
  rintro u s1 ⟨y, H1, I1, ru, q1⟩
  have r2 := pv.run pn s1 σ H1 _ I1 q1
  rw [hxe] at r2
  refine thnF r2 ?_
  rintro v s2 ⟨z, H2, I2, rv, kvs, k, b, rfl, hD, hb, hz, n⟩
  exact dict_put hu I2 hD hb hz ru rv fun s3 I3 => hf s3 _ I3 n
/-- the walk of a block's clause goes on or is done -/
structure Going (X : Cx) (tg : Expr) (s3 : Shared) (H3 : Hp) (scope : Scope) (ce : Env) (fp : List Addr) (J : It) (it : Addr) (tn : Nat → Heap → Prop) (σ0 : L2.St) (Q : VK) (D : Addr) (P : Result → Shared → Prop) (s4 : Shared) : Prop where
  T : Turn X.prog X.w X.K tg J fp it tn
  I : Inv (X.blk s3 H3 scope ce fp) [] σ0 H3 s4
  st : tn 0 s4.heap
  free : ∀ b ∈ fp, H3 b = none
  done : ∀ (s : Shared) (H : Hp), Inv (X.blk s3 H3 scope ce fp) [] σ0 H s → Q (.ref D) H → P (.ok .next) s
theorem dict_comp {kx vx tg iter : Expr} {ifs : List Expr} {rest : List Comprehension} {scope : Scope} {own : List (PySem.Str × Nat)} {pos : Pos} {wi : TI} {pn : List (Addr × Obj)} {σ : L2.St} {H : Hp} {s : Shared} {Q : VK} {Rq : It → Hp → Prop} {use : Option (Value → Sem Unit)} {Qf : Value → Shared → Prop}
    (calm : X.calm = true) (nd : X.N.Nodup) (I : Inv X pn σ H s) (hi : PI X tg iter wi) (ok : BlkOk X.N X.env.scope scope own) (plain : ∀ x, foldedSetIterable iter X.env x = pure x) (h : wi σ H Rq)
    (back : ∀ D C s' m H', Inv X pn σ H' s' → Q (.ref D) H' → s'.heap.Ns C m → FpOk X pn H' C → compPost (model X.prog X.w) X.A X.xe use Qf (.ref D) C (.ok .next) s')
    (loop : ∀ (s3 s4 : Shared) (H2 : Hp) (cl : List (PySem.Str × Addr)) (L it D : Addr) (fp : List Addr) (J : It) (tn : Nat → Heap → Prop) (R : Result → Shared → Prop), Rq J H2 → H2 D = none →
      Going X tg s3 (upd H2 D (.dT [])) scope (compEnvC scope cl L X.env) fp J it tn (wipe σ (own.map (·.2))) Q D R s4 →
      codeAny (model X.prog X.w) X.A (.compLoop (.DictComp kx vx (⟨tg, iter, ifs, 0⟩ :: rest) scope pos) 0 (.ref it) (.ref D) (compEnvC scope cl L X.env)) R s4) :
    wpAny (model X.prog X.w) X.A (comprehension (.DictComp kx vx (⟨tg, iter, ifs, 0⟩ :: rest) scope pos) scope X.env (firstIterPos (⟨tg, iter, ifs, 0⟩ :: rest) pos) newDict false (eval iter X.env) use) Qf X.xe s := by
  have cells : ∀ y ∈ scope.names, y.2 = .free → ∃ c, X.env.cells.lookup y.1 = some c := fun y hy e =>
    (ok.free y hy e).elim (fun k => I.ok.has _ (.inl k)) (fun k => I.ok.has _ (.inr k))
  refine wpAny_comprehension_free (use := use) rfl plain (closure_ok cells) ok.kind (fun y hy e => (ok.uniq y hy).trans (by rw [e])) ?_
  refine thn (hi.run pn s σ H _ I h) fun xv s1 hx => thn hx fun itv s2 h2 => ?_
  obtain ⟨it, fp, tn, J, H2, rfl, I2, T, st2, f2, q⟩ := h2
  refine wpAny_newObj_type (newEnv_comp ?_)
  obtain ⟨D, hD⟩ : ∃ D, s2.heap.objs.size = D := ⟨_, rfl⟩
  rw [hD]
  have hDn : H2 D = none := I2.hok.fresh (Nat.le_of_eq hD)
  obtain ⟨s3, hs3⟩ : ∃ s3 : Shared, ({ s2 with heap := s2.heap.push { cls := .type "dict", data := .dict #[] } } : Shared) = s3 := ⟨_, rfl⟩
  have h3 : s3.heap = s2.heap.push { cls := .type "dict", data := .dict #[] } := by rw [← hs3]
  have sz : ∀ b ∈ fp, b < s2.heap.objs.size := fun b hb => (T.obj _ _ st2 b hb).elim fun o z => Heap.lt_size z.1
  have grow : ∀ b o, s2.heap.get? b = some o → s3.heap.get? b = some o := fun b o e => by rw [h3]; exact Heap.get?_push_of_some _ e
  have I3 : Inv X pn σ (upd H2 D (.dT [])) s3 := by
    rw [← hs3]
    refine I2.laid (t' := s2.toks) (fun b o e => Heap.get?_push_of_some _ e) (Nat.le_of_eq hD) ?_
    have nw := dt_empty (P := X.prog) (w := X.w) s2.heap I2.big (H := upd H2 D (.dT []))
    rw [hD] at nw
    exact nw
  have f3 : ∀ b ∈ fp, FpOk X pn (upd H2 D (.dT [])) b ∧ b < s3.heap.objs.size := fun b hb => by
    have hlt := sz b hb
    have ne : b ≠ D := by rw [← hD]; exact Nat.ne_of_lt hlt
    exact ⟨⟨by rw [upd_ne ne]; exact (f2 b hb).1, (f2 b hb).2⟩, by rw [h3, Heap.size_push]; exact Nat.lt_succ_of_lt hlt⟩
  have st3 : tn 0 s3.heap := T.keep _ _ _ st2 fun b _ o e => grow b o e
  rw [hs3]
  obtain ⟨L, hL⟩ : ∃ L, s3.heap.objs.size = L := ⟨_, rfl⟩
  obtain ⟨cl, hcl⟩ : ∃ cl, cellsFrom (s3.heap.objs.size + 1) scope.names (cloFrom X.env.cells scope.names []) = cl := ⟨_, rfl⟩
  have I4 := block_start I3 ok nd f3
  show codeAny _ _ (.compStart (.DictComp kx vx (⟨tg, iter, ifs, 0⟩ :: rest) scope pos) 0 (.ref it) (.ref D) (compEnvC scope (cellsFrom (s3.heap.objs.size + 1) scope.names (cloFrom X.env.cells scope.names [])) s3.heap.objs.size X.env))
    (compPost (model X.prog X.w) X.A X.xe use Qf (.ref D) s3.heap.objs.size) { s3 with heap := pushCells (s3.heap.push { cls := .type "dict", data := .dict #[] }) scope.names }
  rw [hcl, hL]
  rw [hcl, hL] at I4
  obtain ⟨s4, hs4⟩ : ∃ s4 : Shared, ({ s3 with heap := pushCells (s3.heap.push { cls := .type "dict", data := .dict #[] }) scope.names } : Shared) = s4 := ⟨_, rfl⟩
  rw [hs4] at I4 ⊢
  have st4 : tn 0 s4.heap := T.keep _ _ _ st3 fun b _ o e => by
    rw [← hs4]
    exact pushCells_keeps _ _ _ _ (Heap.get?_push_of_some _ e)
  have lp := loop s3 s4 H2 cl L it D fp J tn (compPost (model X.prog X.w) X.A X.xe use Qf (.ref D) L) q hDn ⟨T, I4, st4, fun b hb => (f3 b hb).1.1, fun s6 H5 I6 qq => by
    have I7 : Inv X pn σ H5 s6 := I3.call' (ch := fp) I6.os I6.base I6.hok I6.bare fun b hb => ⟨(f3 b hb).1.2.2.2.1, (f3 b hb).1.2.1, (f3 b hb).1.2.2.2.2.1, (f3 b hb).1.2.2.2.2.2⟩
    have nC : H5 L = none := (show H5 (compEnvC scope cl L X.env).locals = none from I6.free)
    obtain ⟨m, hn, _⟩ := I6.loc
    have hn : s6.heap.Ns L m := hn
    have fpo := I3.fpOk (Nat.le_of_eq hL) nC
    exact back D L s6 m H5 I7 qq hn fpo⟩
  exact codeAny_compStart_dict lp (T.self X.A 0 _ _ _ st4 lp)
/-- what stands still while a block's clause is walked -/
theorem stat_of {s3 : Shared} {H3 : Hp} {scope : Scope} {ce : Env} {fp : List Addr} {σ' : L2.St} {H' : Hp} {s' : Shared} (I : Inv (X.blk s3 H3 scope ce fp) [] σ' H' s') (hn : ∀ b ∈ fp, H' b = none) : ∀ b ∈ fp, FpOk (X.blk s3 H3 scope ce fp) [] H' b := fun b hb =>
  ⟨hn b hb, (I.ok.exf b hb).1, I.ok.exfs b hb, .inl hb, fun x c e => (I.ok.exf b hb).2 x c e, fun p hp => nomatch (show p ∈ ([] : List (Addr × Obj)) from hp)⟩
theorem dcT_run {pn : List (Addr × Obj)} {σ : L2.St} {H : Hp} {s : Shared} {Q : VK} {use : Option (Value → Sem Unit)} {Qf : Value → Shared → Prop} {kx vx tg iter : Expr} {ifs : List Expr} {scope : Scope} {own : List (PySem.Str × Nat)} {pos : Pos} {wi : TI} {g : TG} {tt : TT} {tk tv : TE} (hu : X.A.units + 1 < cLine) (calm : X.calm = true) (nd : X.N.Nodup) (hi : PI X tg iter wi) (ok : BlkOk X.N X.env.scope scope own)
    (hg : ∀ (s : Shared) (H : Hp) (C : Addr) (cl : List (PySem.Str × Addr)) (fp : List Addr), PG (X.blk s H scope (compEnvC scope cl C X.env) fp) tg g)
    (ht : ∀ (s : Shared) (H : Hp) (C : Addr) (cl : List (PySem.Str × Addr)) (fp : List Addr), PTs (X.blk s H scope (compEnvC scope cl C X.env) fp) ifs tt)
    (hk : ∀ (s : Shared) (H : Hp) (C : Addr) (cl : List (PySem.Str × Addr)) (fp : List Addr), PE (X.blk s H scope (compEnvC scope cl C X.env) fp) kx tk)
    (he : ∀ (s : Shared) (H : Hp) (C : Addr) (cl : List (PySem.Str × Addr)) (fp : List Addr), PE (X.blk s H scope (compEnvC scope cl C X.env) fp) vx tv)
    (plain : ∀ x, foldedSetIterable iter X.env x = pure x := by intro _; rfl) (I : Inv X pn σ H s) (h : (tDcT wi g tt tk tv (own.map (·.2))) σ H Q)
    (back : ∀ D C s' m H', Inv X pn σ H' s' → Q (.ref D) H' → s'.heap.Ns C m → FpOk X pn H' C → compPost (model X.prog X.w) X.A X.xe use Qf (.ref D) C (.ok .next) s')
    : wpAny (model X.prog X.w) X.A (comprehension (.DictComp kx vx [⟨tg, iter, ifs, 0⟩] scope pos) scope X.env (firstIterPos [⟨tg, iter, ifs, 0⟩] pos) newDict false (eval iter X.env) use) Qf X.xe s := by
  refine dict_comp calm nd I hi ok plain h back fun s3 s4 H2 cl L it D fp J tn R q hDn Go => ?_
  obtain ⟨W, ⟨m0, w0⟩, turn⟩ := q D hDn
  have pg := hg s3 (upd H2 D (.dT [])) L cl fp
  have pt := ht s3 (upd H2 D (.dT [])) L cl fp
  have pk := hk s3 (upd H2 D (.dT [])) L cl fp
  have pv := he s3 (upd H2 D (.dT [])) L cl fp
  generalize hce : compEnvC scope cl L X.env = ce at Go pg pt pk pv ⊢
  generalize hH3 : upd H2 D (.dT []) = H3 at Go pg pt pk pv w0
  refine compLoop_anyD (fun n s' => ∃ i H', Inv (X.blk s3 H3 scope ce fp) [] (wipe σ (own.map (·.2))) H' s' ∧ tn i s'.heap ∧ (∀ b ∈ fp, H' b = none) ∧ W i n H') ?_ m0 ⟨0, H3, Go.I, Go.st, Go.free, w0⟩
  rintro n s5 ⟨i, H5, I5, st5, n5, w5⟩
  rcases turn i n H5 w5 with ⟨stop, qq⟩ | ⟨go, Nx, hNx, step⟩
  · refine thnF (Go.T.done (X.blk s3 H3 scope ce fp) rfl rfl rfl calm i [] s5 _ H5 (fun _ _ => False) I5 (stat_of I5 n5) st5 stop) ?_
    rintro r s6 ⟨rfl, I6⟩
    exact Go.done s6 H5 I6 qq
  refine thnF (Go.T.item (X.blk s3 H3 scope ce fp) rfl rfl rfl calm i [] s5 _ H5 (fun _ _ => False) I5 (stat_of I5 n5) st5 go) ?_
  rintro r s6 ⟨u, rfl, h6⟩
  refine thnF h6 ?_
  rintro _ s7 ⟨x, H7, I7, r7, y7, st7, n7⟩
  have I7' := I7.pinned (stat_of I7 n7) (Go.T.obj _ _ st7)
  refine thnF (pg.run _ s7 _ H7 x u _ I7' r7 (step x H7 y7)) ?_
  rintro _ s8 ⟨σ8, H8, I8, hw8, q8⟩
  refine thnF (pt.run _ s8 σ8 H8 _ I8 q8) ?_
  rintro b s9 ⟨H9, I9, q9⟩
  have fin : ∀ (s' : Shared) (H' : Hp), Inv (X.blk s3 H3 scope ce fp) ([] ++ pinsAt fp s7.heap) σ8 H' s' → Nx H' →
      ∃ m, m < n ∧ ∃ i H', Inv (X.blk s3 H3 scope ce fp) [] (wipe σ (own.map (·.2))) H' s' ∧ tn i s'.heap ∧ (∀ b ∈ fp, H' b = none) ∧ W i m H' := by
    intro s' H' I' nx
    obtain ⟨m', hm, w'⟩ := hNx H' nx
    have held : ∀ b ∈ fp, ∀ o, s7.heap.get? b = some o → s'.heap.get? b = some o ∧ H' b = none := fun b hb o e =>
      have z := I'.pin (b, o) (List.mem_append_right _ (List.mem_append_right _ (mem_pinsAt hb e)))
      ⟨z.1, z.2.1⟩
    have hl : (wipe σ (own.map (·.2))).length = σ8.length := by rw [← hw8, wipe_length]
    refine ⟨m', hm, i + 1, H', (I'.unpinned (pins := [])).weak hl (fun j v e => ?_), Go.T.keep _ _ _ st7 (fun b hb o e => (held b hb o e).1), (fun b hb => ?_), w'⟩
    · rw [← hw8] at e
      exact (wipe_some e).1
    · obtain ⟨o, e, _⟩ := Go.T.obj _ _ st7 b hb
      exact (held b hb o e).2
  cases b with
  | false => exact fin s9 H9 I9 q9
  | true => exact put_run (X := X.blk s3 H3 scope ce fp) hu pk pv I9 rfl rfl q9 fin
theorem pe_dcT {kx vx tg iter : Expr} {ifs : List Expr} {scope : Scope} {own : List (PySem.Str × Nat)} {pos : Pos} {wi : TI} {g : TG} {tt : TT} {tk tv : TE} (hu : X.A.units + 1 < cLine) (calm : X.calm = true) (nd : X.N.Nodup) (hi : PI X tg iter wi) (ok : BlkOk X.N X.env.scope scope own)
    (hg : ∀ (s : Shared) (H : Hp) (C : Addr) (cl : List (PySem.Str × Addr)) (fp : List Addr), PG (X.blk s H scope (compEnvC scope cl C X.env) fp) tg g)
    (ht : ∀ (s : Shared) (H : Hp) (C : Addr) (cl : List (PySem.Str × Addr)) (fp : List Addr), PTs (X.blk s H scope (compEnvC scope cl C X.env) fp) ifs tt)
    (hk : ∀ (s : Shared) (H : Hp) (C : Addr) (cl : List (PySem.Str × Addr)) (fp : List Addr), PE (X.blk s H scope (compEnvC scope cl C X.env) fp) kx tk)
    (he : ∀ (s : Shared) (H : Hp) (C : Addr) (cl : List (PySem.Str × Addr)) (fp : List Addr), PE (X.blk s H scope (compEnvC scope cl C X.env) fp) vx tv)
    (plain : ∀ x, foldedSetIterable iter X.env x = pure x := by intro _; rfl) : PE X (.DictComp kx vx [⟨tg, iter, ifs, 0⟩] scope pos) (tDcT wi g tt tk tv (own.map (·.2))) := by
  refine ⟨fun pn s σ H Q I h => ?_⟩
  rw [arm_eval_DictComp]
  refine dcT_run hu calm nd hi ok hg ht hk he plain I h fun D C s' m H' I' q hn f => ⟨m, hn, fun h9 sb => ?_⟩
  obtain ⟨f0, f1, _, f3, f4, f5⟩ := f
  exact ⟨.ref D, H', I'.turned (t' := s'.toks) (fun b o hb e => (sb.2 b hb).trans e) f0 f1 f3 f4 f5, rfl, q⟩
theorem ps_setdcT {i : Nat} {y : Str} {py spos : Pos} {kx vx tg iter : Expr} {ifs : List Expr} {scope : Scope} {own : List (PySem.Str × Nat)} {pos : Pos} {wi : TI} {g : TG} {tt : TT} {tk tv : TE} (hu : X.A.units + 1 < cLine) (calm : X.calm = true) (nd : X.N.Nodup) (hy : X.N[i]? = some y) (hyl : X.env.scope.names.lookup y = some .local)
    (hsw : swapsWith (.DictComp kx vx [⟨tg, iter, ifs, 0⟩] scope pos) (some (.Name y py)) spos.line X.env = pure true) (hi : PI X tg iter wi) (ok : BlkOk X.N X.env.scope scope own)
    (hg : ∀ (s : Shared) (H : Hp) (C : Addr) (cl : List (PySem.Str × Addr)) (fp : List Addr), PG (X.blk s H scope (compEnvC scope cl C X.env) fp) tg g)
    (ht : ∀ (s : Shared) (H : Hp) (C : Addr) (cl : List (PySem.Str × Addr)) (fp : List Addr), PTs (X.blk s H scope (compEnvC scope cl C X.env) fp) ifs tt)
    (hk : ∀ (s : Shared) (H : Hp) (C : Addr) (cl : List (PySem.Str × Addr)) (fp : List Addr), PE (X.blk s H scope (compEnvC scope cl C X.env) fp) kx tk)
    (he : ∀ (s : Shared) (H : Hp) (C : Addr) (cl : List (PySem.Str × Addr)) (fp : List Addr), PE (X.blk s H scope (compEnvC scope cl C X.env) fp) vx tv)
    (plain : ∀ x, foldedSetIterable iter X.env x = pure x := by intro _; rfl) : PS X (.Assign [.Name y py] (.DictComp kx vx [⟨tg, iter, ifs, 0⟩] scope pos) spos) (tAsg (tDcT wi g tt tk tv (own.map (·.2))) (gName i)) := by
  refine ⟨fun pins s σ H D I h => ?_⟩
  rw [exec_Assign_Name_used _ _ _ _ hsw]
  refine wpAny_bind (wpAny_standAt (wpAny_bind ?_))
  show wpAny _ X.A (do let _ ← comprehension (.DictComp kx vx [⟨tg, iter, ifs, 0⟩] scope pos) scope X.env (firstIterPos [⟨tg, iter, ifs, 0⟩] pos) newDict false (eval iter X.env) (some (assign (.Name y py) X.env))) _ _ s
  refine wpAny_bind (thn (dcT_run (Qf := fun _ s' => SP X pins D .next s') hu calm nd hi ok hg ht hk he plain I h fun L C s' m H' I' q hn f => ?_) fun _ s' hq => wpAny_pure (wpAny_pure hq))
  show wpAny _ _ (assign (.Name y py) X.env (.ref L)) _ _ _
  refine wpAny_assign_Name (store_ok2 (v := V.ref L) I' nd hy (.inl hyl) rfl (fun s2 I2 ⟨a, sb, ha⟩ => ?_) (.inr hyl))
  obtain ⟨f0, f1, _, f3, f4, f5⟩ := f
  have apart : C ≠ a := by
    rcases ha with z | z
    · rw [z]; exact f1
    · exact fun e => f4 y a z e.symm
  refine ⟨m, hn.sameBut sb apart, fun h3 sb3 => ?_⟩
  exact ⟨_, H', I2.turned (t' := s2.toks) (fun b o hb e => (sb3.2 b hb).trans e) f0 f1 f3 f4 f5, q⟩
theorem dcT2_run {pn : List (Addr × Obj)} {σ : L2.St} {H : Hp} {s : Shared} {Q : VK} {use : Option (Value → Sem Unit)} {Qf : Value → Shared → Prop} {kx vx tg iter tg1 iter1 : Expr} {ifs ifs1 : List Expr} {scope : Scope} {own : List (PySem.Str × Nat)} {vs1 : List Nat} {pos : Pos} {wi wi1 : TI} {g g1 : TG} {tt tt1 : TT} {tk tv : TE} (hu : X.A.units + 1 < cLine) (calm : X.calm = true) (nd : X.N.Nodup) (hi : PI X tg iter wi)
    (ok : BlkOk X.N X.env.scope scope own) (sub : ∀ i ∈ vs1, i ∈ own.map (·.2))
    (hg : ∀ (s : Shared) (H : Hp) (C : Addr) (cl : List (PySem.Str × Addr)) (fp : List Addr), PG (X.blk s H scope (compEnvC scope cl C X.env) fp) tg g)
    (ht : ∀ (s : Shared) (H : Hp) (C : Addr) (cl : List (PySem.Str × Addr)) (fp : List Addr), PTs (X.blk s H scope (compEnvC scope cl C X.env) fp) ifs tt)
    (hi1 : ∀ (s : Shared) (H : Hp) (C : Addr) (cl : List (PySem.Str × Addr)) (fp : List Addr), PI (X.blk s H scope (compEnvC scope cl C X.env) fp) tg1 iter1 wi1)
    (hg1 : ∀ (s : Shared) (H : Hp) (C : Addr) (cl : List (PySem.Str × Addr)) (fp : List Addr), PG (X.blk s H scope (compEnvC scope cl C X.env) fp) tg1 g1)
    (ht1 : ∀ (s : Shared) (H : Hp) (C : Addr) (cl : List (PySem.Str × Addr)) (fp : List Addr), PTs (X.blk s H scope (compEnvC scope cl C X.env) fp) ifs1 tt1)
    (hk : ∀ (s : Shared) (H : Hp) (C : Addr) (cl : List (PySem.Str × Addr)) (fp : List Addr), PE (X.blk s H scope (compEnvC scope cl C X.env) fp) kx tk)
    (he : ∀ (s : Shared) (H : Hp) (C : Addr) (cl : List (PySem.Str × Addr)) (fp : List Addr), PE (X.blk s H scope (compEnvC scope cl C X.env) fp) vx tv)
    (plain : ∀ x, foldedSetIterable iter X.env x = pure x := by intro _; rfl) (plain1 : ∀ env x, foldedSetIterable iter1 env x = pure x := by intro _ _; rfl) (I : Inv X pn σ H s) (h : (tDcT2 wi g tt wi1 g1 tt1 tk tv (own.map (·.2)) vs1) σ H Q)
    (back : ∀ D C s' m H', Inv X pn σ H' s' → Q (.ref D) H' → s'.heap.Ns C m → FpOk X pn H' C → compPost (model X.prog X.w) X.A X.xe use Qf (.ref D) C (.ok .next) s')
    : wpAny (model X.prog X.w) X.A (comprehension (.DictComp kx vx [⟨tg, iter, ifs, 0⟩, ⟨tg1, iter1, ifs1, 0⟩] scope pos) scope X.env (firstIterPos [⟨tg, iter, ifs, 0⟩, ⟨tg1, iter1, ifs1, 0⟩] pos) newDict false (eval iter X.env) use) Qf X.xe s := by
  refine dict_comp calm nd I hi ok plain h back fun s3 s4 H2 cl L it D fp J tn R q hDn Go => ?_
  obtain ⟨W, ⟨m0, w0⟩, turn⟩ := q D hDn
  have pg := hg s3 (upd H2 D (.dT [])) L cl fp
  have pt := ht s3 (upd H2 D (.dT [])) L cl fp
  have pi1 := hi1 s3 (upd H2 D (.dT [])) L cl fp
  have pg1 := hg1 s3 (upd H2 D (.dT [])) L cl fp
  have pt1 := ht1 s3 (upd H2 D (.dT [])) L cl fp
  have pk := hk s3 (upd H2 D (.dT [])) L cl fp
  have pv := he s3 (upd H2 D (.dT [])) L cl fp
  generalize hce : compEnvC scope cl L X.env = ce at Go pg pt pi1 pg1 pt1 pk pv ⊢
  generalize hH3 : upd H2 D (.dT []) = H3 at Go pg pt pi1 pg1 pt1 pk pv w0
  refine loopD_out (plain1 ce) (fun n s' => ∃ i H', Inv (X.blk s3 H3 scope ce fp) [] (wipe σ (own.map (·.2))) H' s' ∧ tn i s'.heap ∧ (∀ b ∈ fp, H' b = none) ∧ W i n H') ?_ m0 ⟨0, H3, Go.I, Go.st, Go.free, w0⟩
  rintro n s5 ⟨i, H5, I5, st5, n5, w5⟩
  rcases turn i n H5 w5 with ⟨stop, qq⟩ | ⟨go, Nx, hNx, step⟩
  · refine thnF (Go.T.done (X.blk s3 H3 scope ce fp) rfl rfl rfl calm i [] s5 _ H5 (fun _ _ => False) I5 (stat_of I5 n5) st5 stop) ?_
    rintro r s6 ⟨rfl, I6⟩
    exact Go.done s6 H5 I6 qq
  refine thnF (Go.T.item (X.blk s3 H3 scope ce fp) rfl rfl rfl calm i [] s5 _ H5 (fun _ _ => False) I5 (stat_of I5 n5) st5 go) ?_
  rintro r s6 ⟨u, rfl, h6⟩
  refine thnF h6 ?_
  rintro _ s7 ⟨x, H7, I7, r7, y7, st7, n7⟩
  have I7' := I7.pinned (stat_of I7 n7) (Go.T.obj _ _ st7)
  refine thnF (pg.run _ s7 _ H7 x u _ I7' r7 (step x H7 y7)) ?_
  rintro _ s8 ⟨σ8, H8, I8, hw8, q8⟩
  refine thnF (pt.run _ s8 σ8 H8 _ I8 q8) ?_
  rintro b s9 ⟨H9, I9, q9⟩
  have fin : ∀ (σ9 : L2.St) (s' : Shared) (H' : Hp), Inv (X.blk s3 H3 scope ce fp) ([] ++ pinsAt fp s7.heap) σ9 H' s' → σ9.length = (wipe σ (own.map (·.2))).length → (∀ (j : Nat) v, (wipe σ (own.map (·.2)))[j]? = some (some v) → σ9[j]? = some (some v)) → Nx H' →
      ∃ m, m < n ∧ ∃ i H', Inv (X.blk s3 H3 scope ce fp) [] (wipe σ (own.map (·.2))) H' s' ∧ tn i s'.heap ∧ (∀ b ∈ fp, H' b = none) ∧ W i m H' := by
    intro σ9 s' H' I' hl hk nx
    obtain ⟨m', hm, w'⟩ := hNx H' nx
    have held : ∀ b ∈ fp, ∀ o, s7.heap.get? b = some o → s'.heap.get? b = some o ∧ H' b = none := fun b hb o e =>
      have z := I'.pin (b, o) (List.mem_append_right _ (List.mem_append_right _ (mem_pinsAt hb e)))
      ⟨z.1, z.2.1⟩
    refine ⟨m', hm, i + 1, H', (I'.unpinned (pins := [])).weak hl.symm hk, Go.T.keep _ _ _ st7 (fun b hb o e => (held b hb o e).1), (fun b hb => ?_), w'⟩
    obtain ⟨o, e, _⟩ := Go.T.obj _ _ st7 b hb
    exact (held b hb o e).2
  have l8 : σ8.length = (wipe σ (own.map (·.2))).length := by rw [← hw8, wipe_length]
  have k8 : ∀ (j : Nat) v, (wipe σ (own.map (·.2)))[j]? = some (some v) → σ8[j]? = some (some v) ∧ j ∉ own.map (·.2) := fun j v e => by
    rw [← hw8] at e
    exact wipe_some e
  cases b with
  | false => exact fin σ8 s9 H9 I9 l8 (fun j v e => (k8 j v e).1) q9
  | true =>
    refine thnF (pi1.run _ s9 σ8 H9 _ I9 q9) fun xv s10 hx => thnF hx fun itv s11 h11 => ?_
    obtain ⟨it1, fp1, tn1, J1, H11, rfl, I11, T1, st11, f11, W1, ⟨m1, w1⟩, turn1⟩ := h11
    have still : ∀ {H' : Hp}, (∀ b ∈ fp1, H' b = none) → ∀ b ∈ fp1, FpOk (X.blk s3 H3 scope ce fp) ([] ++ pinsAt fp s7.heap) H' b := fun hn b hb => ⟨hn b hb, (f11 b hb).2⟩
    have inner : codeAny (model X.prog X.w) X.A (.compLoop (.DictComp kx vx [⟨tg, iter, ifs, 0⟩, ⟨tg1, iter1, ifs1, 0⟩] scope pos) 1 (.ref it1) (.ref D) ce)
        (fun r s' => match r with
          | .ok _ => ∃ m, m < n ∧ ∃ i H', Inv (X.blk s3 H3 scope ce fp) [] (wipe σ (own.map (·.2))) H' s' ∧ tn i s'.heap ∧ (∀ b ∈ fp, H' b = none) ∧ W i m H'
          | .error _ => False) s11 := by
      refine loopD_in (fun k s' => ∃ j H', Inv (X.blk s3 H3 scope ce fp) ([] ++ pinsAt fp s7.heap) (wipe σ8 vs1) H' s' ∧ tn1 j s'.heap ∧ (∀ b ∈ fp1, H' b = none) ∧ W1 j k H') ?_ m1 ⟨0, H11, I11.weak (wipe_length _ _) (fun j v e => (wipe_some e).1), st11, fun b hb => (f11 b hb).1, w1⟩
      rintro k s12 ⟨j, H12, I12, st12, n12, w12⟩
      rcases turn1 j k H12 w12 with ⟨stop1, nx1⟩ | ⟨go1, N1, hN1, step1⟩
      · refine thnF (T1.done (X.blk s3 H3 scope ce fp) rfl rfl rfl calm j _ s12 (wipe σ8 vs1) H12 (fun _ _ => False) I12 (still n12) st12 stop1) ?_
        rintro r s13 ⟨rfl, I13⟩
        refine fin _ s13 H12 I13 ((wipe_length σ8 vs1).trans l8) (fun a v e => ?_) nx1
        obtain ⟨e1, e2⟩ := k8 a v e
        rw [wipe_out fun z => e2 (sub a z)]
        exact e1
      refine thnF (T1.item (X.blk s3 H3 scope ce fp) rfl rfl rfl calm j _ s12 (wipe σ8 vs1) H12 (fun _ _ => False) I12 (still n12) st12 go1) ?_
      rintro r s13 ⟨u1, rfl, h13⟩
      refine thnF h13 ?_
      rintro _ s14 ⟨x1, H14, I14, r14, y14, st14, n14⟩
      have I14' := I14.pinned (still n14) (T1.obj _ _ st14)
      refine thnF (pg1.run _ s14 (wipe σ8 vs1) H14 x1 u1 _ I14' r14 (step1 x1 H14 y14)) ?_
      rintro _ s15 ⟨σ15, H15, I15, hw15, q15⟩
      refine thnF (pt1.run _ s15 σ15 H15 _ I15 q15) ?_
      rintro b1 s16 ⟨H16, I16, q16⟩
      have fin1 : ∀ (s' : Shared) (H' : Hp), Inv (X.blk s3 H3 scope ce fp) (([] ++ pinsAt fp s7.heap) ++ pinsAt fp1 s14.heap) σ15 H' s' → N1 H' →
          ∃ m, m < k ∧ ∃ j H', Inv (X.blk s3 H3 scope ce fp) ([] ++ pinsAt fp s7.heap) (wipe σ8 vs1) H' s' ∧ tn1 j s'.heap ∧ (∀ b ∈ fp1, H' b = none) ∧ W1 j m H' := by
        intro s' H' I' nx
        obtain ⟨m', hm, w'⟩ := hN1 H' nx
        have held : ∀ b ∈ fp1, ∀ o, s14.heap.get? b = some o → s'.heap.get? b = some o ∧ H' b = none := fun b hb o e =>
          have z := I'.pin (b, o) (List.mem_append_right _ (List.mem_append_right _ (mem_pinsAt hb e)))
          ⟨z.1, z.2.1⟩
        refine ⟨m', hm, j + 1, H', I'.unpinned.weak (by rw [← hw15, wipe_length]) (fun a v e => by rw [← hw15] at e; exact (wipe_some e).1), T1.keep _ _ _ st14 (fun b hb o e => (held b hb o e).1), (fun b hb => ?_), w'⟩
        obtain ⟨o, e, _⟩ := T1.obj _ _ st14 b hb
        exact (held b hb o e).2
      cases b1 with
      | false => exact fin1 s16 H16 I16 q16
      | true => exact put_run (X := X.blk s3 H3 scope ce fp) hu pk pv I16 rfl rfl q16 fin1
    exact startD1 inner (T1.self X.A 0 _ _ _ st11 inner)
theorem pe_dcT2 {kx vx tg iter tg1 iter1 : Expr} {ifs ifs1 : List Expr} {scope : Scope} {own : List (PySem.Str × Nat)} {vs1 : List Nat} {pos : Pos} {wi wi1 : TI} {g g1 : TG} {tt tt1 : TT} {tk tv : TE} (hu : X.A.units + 1 < cLine) (calm : X.calm = true) (nd : X.N.Nodup) (hi : PI X tg iter wi)
    (ok : BlkOk X.N X.env.scope scope own) (sub : ∀ i ∈ vs1, i ∈ own.map (·.2))
    (hg : ∀ (s : Shared) (H : Hp) (C : Addr) (cl : List (PySem.Str × Addr)) (fp : List Addr), PG (X.blk s H scope (compEnvC scope cl C X.env) fp) tg g)
    (ht : ∀ (s : Shared) (H : Hp) (C : Addr) (cl : List (PySem.Str × Addr)) (fp : List Addr), PTs (X.blk s H scope (compEnvC scope cl C X.env) fp) ifs tt)
    (hi1 : ∀ (s : Shared) (H : Hp) (C : Addr) (cl : List (PySem.Str × Addr)) (fp : List Addr), PI (X.blk s H scope (compEnvC scope cl C X.env) fp) tg1 iter1 wi1)
    (hg1 : ∀ (s : Shared) (H : Hp) (C : Addr) (cl : List (PySem.Str × Addr)) (fp : List Addr), PG (X.blk s H scope (compEnvC scope cl C X.env) fp) tg1 g1)
    (ht1 : ∀ (s : Shared) (H : Hp) (C : Addr) (cl : List (PySem.Str × Addr)) (fp : List Addr), PTs (X.blk s H scope (compEnvC scope cl C X.env) fp) ifs1 tt1)
    (hk : ∀ (s : Shared) (H : Hp) (C : Addr) (cl : List (PySem.Str × Addr)) (fp : List Addr), PE (X.blk s H scope (compEnvC scope cl C X.env) fp) kx tk)
    (he : ∀ (s : Shared) (H : Hp) (C : Addr) (cl : List (PySem.Str × Addr)) (fp : List Addr), PE (X.blk s H scope (compEnvC scope cl C X.env) fp) vx tv)
    (plain : ∀ x, foldedSetIterable iter X.env x = pure x := by intro _; rfl) (plain1 : ∀ env x, foldedSetIterable iter1 env x = pure x := by intro _ _; rfl) :
    PE X (.DictComp kx vx [⟨tg, iter, ifs, 0⟩, ⟨tg1, iter1, ifs1, 0⟩] scope pos) (tDcT2 wi g tt wi1 g1 tt1 tk tv (own.map (·.2)) vs1) := by
  refine ⟨fun pn s σ H Q I h => ?_⟩
  rw [arm_eval_DictComp]
  refine dcT2_run hu calm nd hi ok sub hg ht hi1 hg1 ht1 hk he plain plain1 I h fun D C s' m H' I' q hn f => ⟨m, hn, fun h9 sb => ?_⟩
  obtain ⟨f0, f1, _, f3, f4, f5⟩ := f
  exact ⟨.ref D, H', I'.turned (t' := s'.toks) (fun b o hb e => (sb.2 b hb).trans e) f0 f1 f3 f4 f5, rfl, q⟩
theorem ps_setdcT2 {i : Nat} {y : Str} {py spos : Pos} {kx vx tg iter tg1 iter1 : Expr} {ifs ifs1 : List Expr} {scope : Scope} {own : List (PySem.Str × Nat)} {vs1 : List Nat} {pos : Pos} {wi wi1 : TI} {g g1 : TG} {tt tt1 : TT} {tk tv : TE} (hu : X.A.units + 1 < cLine) (calm : X.calm = true) (nd : X.N.Nodup) (hy : X.N[i]? = some y) (hyl : X.env.scope.names.lookup y = some .local)
    (hsw : swapsWith (.DictComp kx vx [⟨tg, iter, ifs, 0⟩, ⟨tg1, iter1, ifs1, 0⟩] scope pos) (some (.Name y py)) spos.line X.env = pure true) (hi : PI X tg iter wi)
    (ok : BlkOk X.N X.env.scope scope own) (sub : ∀ i ∈ vs1, i ∈ own.map (·.2))
    (hg : ∀ (s : Shared) (H : Hp) (C : Addr) (cl : List (PySem.Str × Addr)) (fp : List Addr), PG (X.blk s H scope (compEnvC scope cl C X.env) fp) tg g)
    (ht : ∀ (s : Shared) (H : Hp) (C : Addr) (cl : List (PySem.Str × Addr)) (fp : List Addr), PTs (X.blk s H scope (compEnvC scope cl C X.env) fp) ifs tt)
    (hi1 : ∀ (s : Shared) (H : Hp) (C : Addr) (cl : List (PySem.Str × Addr)) (fp : List Addr), PI (X.blk s H scope (compEnvC scope cl C X.env) fp) tg1 iter1 wi1)
    (hg1 : ∀ (s : Shared) (H : Hp) (C : Addr) (cl : List (PySem.Str × Addr)) (fp : List Addr), PG (X.blk s H scope (compEnvC scope cl C X.env) fp) tg1 g1)
    (ht1 : ∀ (s : Shared) (H : Hp) (C : Addr) (cl : List (PySem.Str × Addr)) (fp : List Addr), PTs (X.blk s H scope (compEnvC scope cl C X.env) fp) ifs1 tt1)
    (hk : ∀ (s : Shared) (H : Hp) (C : Addr) (cl : List (PySem.Str × Addr)) (fp : List Addr), PE (X.blk s H scope (compEnvC scope cl C X.env) fp) kx tk)
    (he : ∀ (s : Shared) (H : Hp) (C : Addr) (cl : List (PySem.Str × Addr)) (fp : List Addr), PE (X.blk s H scope (compEnvC scope cl C X.env) fp) vx tv)
    (plain : ∀ x, foldedSetIterable iter X.env x = pure x := by intro _; rfl) (plain1 : ∀ env x, foldedSetIterable iter1 env x = pure x := by intro _ _; rfl) :
    PS X (.Assign [.Name y py] (.DictComp kx vx [⟨tg, iter, ifs, 0⟩, ⟨tg1, iter1, ifs1, 0⟩] scope pos) spos) (tAsg (tDcT2 wi g tt wi1 g1 tt1 tk tv (own.map (·.2)) vs1) (gName i)) := by
  refine ⟨fun pins s σ H D I h => ?_⟩
  rw [exec_Assign_Name_used _ _ _ _ hsw]
  refine wpAny_bind (wpAny_standAt (wpAny_bind ?_))
  show wpAny _ X.A (do let _ ← comprehension (.DictComp kx vx [⟨tg, iter, ifs, 0⟩, ⟨tg1, iter1, ifs1, 0⟩] scope pos) scope X.env (firstIterPos [⟨tg, iter, ifs, 0⟩, ⟨tg1, iter1, ifs1, 0⟩] pos) newDict false (eval iter X.env) (some (assign (.Name y py) X.env))) _ _ s
  refine wpAny_bind (thn (dcT2_run (Qf := fun _ s' => SP X pins D .next s') hu calm nd hi ok sub hg ht hi1 hg1 ht1 hk he plain plain1 I h fun L C s' m H' I' q hn f => ?_) fun _ s' hq => wpAny_pure (wpAny_pure hq))
  show wpAny _ _ (assign (.Name y py) X.env (.ref L)) _ _ _
  refine wpAny_assign_Name (store_ok2 (v := V.ref L) I' nd hy (.inl hyl) rfl (fun s2 I2 ⟨a, sb, ha⟩ => ?_) (.inr hyl))
  obtain ⟨f0, f1, _, f3, f4, f5⟩ := f
  have apart : C ≠ a := by
    rcases ha with z | z
    · rw [z]; exact f1
    · exact fun e => f4 y a z e.symm
  refine ⟨m, hn.sameBut sb apart, fun h3 sb3 => ?_⟩
  exact ⟨_, H', I2.turned (t' := s2.toks) (fun b o hb e => (sb3.2 b hb).trans e) f0 f1 f3 f4 f5, q⟩
/-- name = {..} is stored within its block -/
theorem sw_dict {kx vx : Expr} {gs : List Comprehension} {scope : Scope} {pos py : Pos} {y : PySem.Str} {l : Nat} {env : Env} (fn : env.scope.kind = .function) (loc : env.scope.names.lookup y = some .local) (same : (py.line == pos.line) = true)
    (alone : (scope.names.any fun (n, k) => n == y && (k == .local || k == .cell)) = false) : swapsWith (.DictComp kx vx gs scope pos) (some (.Name y py)) l env = pure true := by
  have e1 : env.blockKind = .function := by
    unfold Env.blockKind
    rw [fn]
    rfl
  have e2 : env.kindOf y = some .local := loc
  unfold swapsWith
  simp only [e1, e2, alone, Expr.pos, same]
  rfl
end
/-- along a walk, any body: Pv by the turn and the heap -/
theorem walk_W {J : It} {n : Nat} {G : Hp → Prop} {Y : Nat → Hp → V → Hp → Prop} (wk : Walk J n G Y) {T : V → Hp → (Hp → Prop) → Prop} {H0 : Hp} {Q : Hp → Prop} (Pv : Nat → Hp → Prop) (start : Pv 0 H0) (stands : ∀ i H, i ≤ n → Pv i H → G H)
    (turn : ∀ i x H H', i < n → Pv i H → Y i H x H' → T x H' (Pv (i + 1))) (done : ∀ H, Pv n H → Q H) :
    ∃ W : Nat → Nat → Hp → Prop, (∃ m, W 0 m H0) ∧ ∀ i m H, W i m H → (J.stop i H ∧ Q H) ∨ (J.go i H ∧ ∃ Nx : Hp → Prop, (∀ H', Nx H' → ∃ m', m' < m ∧ W (i + 1) m' H') ∧ ∀ x H', J.yld i H x H' → T x H' Nx) := by
  refine ⟨fun i m H => (m = n - i ∧ i ≤ n) ∧ Pv i H, ⟨n, ⟨by simp, Nat.zero_le _⟩, start⟩, ?_⟩
  rintro i m H ⟨⟨rfl, le⟩, pv⟩
  have q := stands i H le pv
  rcases Nat.lt_or_ge i n with lt | ge
  · exact .inr ⟨wk.goes i H lt q, Pv (i + 1), fun H' p' => ⟨n - (i + 1), by omega, ⟨rfl, lt⟩, p'⟩, fun x H' y => turn i x H H' lt pv (wk.yields i H x H' lt q y)⟩
  · obtain rfl : i = n := by omega
    exact .inl ⟨wk.stops H q, done H pv⟩
end Gd

/-! zip of any number of lists and tuples of one length -/
namespace Zn
open PySem
open PySem.Sem (wp)
/-- an iterator of a list (true) or of a tuple (false) -/
def ItK (b : Bool) (h : Heap) (i l : Addr) (k : Nat) : Prop := if b then h.IsListIter i l k else h.IsTupleIter i l k
/-- a list or a tuple -/
def SqK (b : Bool) (h : Heap) (l : Addr) (xs : Array Value) : Prop := if b then h.IsList l xs else h.IsTuple l xs
theorem ItK.at {b : Bool} {h h' : Heap} {i l : Addr} {k : Nat} (x : ItK b h i l k) (e : ∀ o, h.get? i = some o → h'.get? i = some o) : ItK b h' i l k := by
  cases b
  · exact Heap.IsTupleIter.at x e
  · exact Heap.IsListIter.at x e
theorem SqK.at {b : Bool} {h h' : Heap} {l : Addr} {xs : Array Value} (x : SqK b h l xs) (e : ∀ o, h.get? l = some o → h'.get? l = some o) : SqK b h' l xs := by
  cases b
  · obtain ⟨o, ho, r⟩ := (x : h.IsTuple l xs)
    exact (⟨o, e _ ho, r⟩ : h'.IsTuple l xs)
  · exact Heap.IsList.at x e
theorem ItK.obj {b : Bool} {h : Heap} {i l : Addr} {k : Nat} (x : ItK b h i l k) : ∃ o, h.get? i = some o ∧ (o.cls = .type "list_iterator" ∨ o.cls = .type "tuple_iterator") ∧ ∀ v, o.data ≠ .cell v := by
  cases b
  · obtain ⟨o, ho, hc, hd⟩ := (x : h.IsTupleIter i l k)
    exact ⟨o, ho, .inr hc, fun v q => by rw [hd] at q; cases q⟩
  · obtain ⟨o, ho, hc, hd⟩ := (x : h.IsListIter i l k)
    exact ⟨o, ho, .inl hc, fun v q => by rw [hd] at q; cases q⟩
theorem SqK.obj {b : Bool} {h : Heap} {l : Addr} {xs : Array Value} (x : SqK b h l xs) : ∃ o, h.get? l = some o ∧ (o.cls = .type "list" ∨ o.cls = .type "tuple") := by
  cases b
  · obtain ⟨o, ho, hc, _⟩ := (x : h.IsTuple l xs)
    exact ⟨o, ho, .inr hc⟩
  · obtain ⟨o, ho, hc, _⟩ := (x : h.IsList l xs)
    exact ⟨o, ho, .inl hc⟩
section
variable {prog : Program} {w : World} {A : Around} {E : Value → Shared → Prop} {s : Shared}
theorem next_item {b : Bool} {it l : Addr} {k : Nat} {xs : Array Value} {x : Value} {Q : Value → Shared → Prop} (hit : ItK b s.heap it l k) (hl : SqK b s.heap l xs) (hx : xs[k]? = some x)
    (hQ : ∀ h', ItK b h' it l (k + 1) → Heap.SameBut it s.heap h' → Q x { s with heap := h' }) : wpAny (model prog w) A (Builtin.SmallTypes.nextOf (.ref it)) Q E s := by
  cases b
  · exact RZ.nextOf_tuple_item hit hl hx hQ
  · exact wpAny_nextOf_list_item hit hl hx hQ
theorem next_end {b : Bool} {it l : Addr} {k : Nat} {xs : Array Value} {Q : Value → Shared → Prop} (hh : A.handled = none) (hit : ItK b s.heap it l k) (hl : SqK b s.heap l xs) (hx : xs[k]? = none)
    (hE : ∀ h' e, Heap.ExtBut it s.heap h' → (∃ o, h'.get? e = some o ∧ o.cls = .type "StopIteration") → E (.ref e) { s with heap := h' }) : wpAny (model prog w) A (Builtin.SmallTypes.nextOf (.ref it)) Q E s := by
  cases b
  · exact RZ.nextOf_tuple_end hh hit hl hx hE
  · exact wpAny_nextOf_list_end hh hit hl hx hE
theorem iter_seq {b : Bool} {l : Addr} {xs : Array Value} {Q : Value → Shared → Prop} (hl : SqK b s.heap l xs)
    (hQ : ∀ h', h'.objs.size = s.heap.objs.size + 1 → (∀ c o, s.heap.get? c = some o → h'.get? c = some o) → ItK b h' s.heap.objs.size l 0 → Q (.ref s.heap.objs.size) { s with heap := h' }) : wpAny (model prog w) A (pyIter (.ref l)) Q E s := by
  cases b
  · exact wpAny_pyIter_tuple hl (hQ _ (Heap.size_push ..) (fun c o e => Heap.get?_push_of_some _ e) (show Heap.IsTupleIter _ _ _ _ from ⟨_, Heap.get?_push_size _ rfl, rfl, rfl⟩))
  · exact wpAny_pyIter_list hl (hQ _ (Heap.size_push ..) (fun c o e => Heap.get?_push_of_some _ e) (show Heap.IsListIter _ _ _ _ from ⟨_, Heap.get?_push_size _ rfl, rfl, rfl⟩))
/-- a loop whose every turn goes on -/
theorem forIn_steps {M : Model} {α β : Type} {f : α → β → Sem (ForInStep β)} {Q : β → Shared → Prop} : ∀ (l : List α) (b : Nat → β) (J : Nat → Shared → Prop) (i : Nat) (s : Shared),
    (∀ j a s, l[j]? = some a → J (i + j) s → wpAny M A (f a (b (i + j))) (fun r s' => r = .yield (b (i + j + 1)) ∧ J (i + j + 1) s') E s) → J i s → (∀ s, J (i + l.length) s → Q (b (i + l.length)) s) → wpAny M A (forIn l (b i) f) Q E s
  | [], b, J, i, s, _, h0, hQ => by
    rw [List.forIn_nil]
    exact wpAny_pure (hQ s h0)
  | a :: l, b, J, i, s, hs, h0, hQ => by
    rw [List.forIn_cons]
    refine wpAny_bind (wpAny_mono (hs 0 a s rfl h0) (fun r s' hr => ?_) fun _ _ e => e)
    obtain ⟨rfl, hJ⟩ := hr
    refine forIn_steps l b J (i + 1) s' (fun j a' s2 hj hJ2 => ?_) hJ fun s2 hJ2 => ?_
    · have e : i + 1 + j = i + (j + 1) := by omega
      rw [e] at hJ2 ⊢
      exact hs (j + 1) a' s2 hj hJ2
    · have e : i + 1 + l.length = i + (a :: l).length := by simp only [List.length_cons]; omega
      rw [e] at hJ2 ⊢
      exact hQ s2 hJ2
end
abbrev IsZipN (h : Heap) (z TI TO : Addr) (f0 f1 : Value) : Prop :=
  h.get? z = some { cls := .type "zip", dict := none, data := .fields #[f0, f1, .bool false, .ref TI, .ref TO], slots := #[] }
abbrev IsTupN (h : Heap) (T : Addr) (vs : List Value) : Prop := h.get? T = some { cls := .type "tuple", data := .seq vs.toArray }
/-- the iterators: kind, place, what is walked -/
abbrev Src := Bool × Addr × Addr
structure Apart (z TI TO : Addr) (ss : List Src) : Prop where
  TIz : TI ≠ z
  TOz : TO ≠ z
  TITO : TI ≠ TO
  iz : ∀ q ∈ ss, q.2.1 ≠ z ∧ q.2.1 ≠ TI ∧ q.2.1 ≠ TO
  lz : ∀ q ∈ ss, q.2.2 ≠ z ∧ q.2.2 ≠ TI ∧ q.2.2 ≠ TO
  il : ∀ q ∈ ss, ∀ r ∈ ss, q.2.1 ≠ r.2.2
  nd : (ss.map (·.2.1)).Nodup
end Zn

namespace Zn
open PySem
open PySem.Sem (wp)
/-- all iterators stand at k over their items -/
def At (h : Heap) (k : Nat) (ss : List Src) (xss : List (Array Value)) : Prop := ∀ (j : Nat) (q : Src) (xs : Array Value), ss[j]? = some q → xss[j]? = some xs → ItK q.1 h q.2.1 q.2.2 k ∧ SqK q.1 h q.2.2 xs
/-- the first j of them stand one further -/
def Mid (h : Heap) (k j : Nat) (ss : List Src) (xss : List (Array Value)) : Prop := ∀ (i : Nat) (q : Src) (xs : Array Value), ss[i]? = some q → xss[i]? = some xs → ItK q.1 h q.2.1 q.2.2 (if i < j then k + 1 else k) ∧ SqK q.1 h q.2.2 xs
theorem At.mid {h : Heap} {k : Nat} {ss : List Src} {xss : List (Array Value)} (a : At h k ss xss) : Mid h k 0 ss xss := fun i q xs h1 h2 => a i q xs h1 h2
theorem Mid.done {h : Heap} {k n : Nat} {ss : List Src} {xss : List (Array Value)} (m : Mid h k n ss xss) (hn : n = ss.length) : At h (k + 1) ss xss := fun i q xs h1 h2 => by
  have := m i q xs h1 h2
  rw [if_pos (by rw [hn]; exact (List.getElem?_eq_some_iff.mp h1).1)] at this
  exact this
/-- all but z, TO and the iterators as they were -/
def Rest (z TO : Addr) (ss : List Src) (h h' : Heap) : Prop := ∀ c o, c ≠ z → c ≠ TO → (∀ q ∈ ss, c ≠ q.2.1) → h.get? c = some o → h'.get? c = some o
theorem Mid.ext {z TI TO : Addr} {h h' : Heap} {k j : Nat} {ss : List Src} {xss : List (Array Value)} (D : Apart z TI TO ss) (m : Mid h k j ss xss) (e : ∀ c o, c ≠ z → c ≠ TO → h.get? c = some o → h'.get? c = some o) : Mid h' k j ss xss := fun i q xs h1 h2 => by
  obtain ⟨a, b⟩ := m i q xs h1 h2
  have hq := List.mem_of_getElem? h1
  exact ⟨a.at fun o => e _ o (D.iz q hq).1 (D.iz q hq).2.2, b.at fun o => e _ o (D.lz q hq).1 (D.lz q hq).2.2⟩
theorem Mid.step {z TI TO : Addr} {h h' : Heap} {k j : Nat} {ss : List Src} {xss : List (Array Value)} {q : Src} (D : Apart z TI TO ss) (m : Mid h k j ss xss) (hq : ss[j]? = some q) (hi : ItK q.1 h' q.2.1 q.2.2 (k + 1)) (e : ∀ c o, c ≠ q.2.1 → h.get? c = some o → h'.get? c = some o) : Mid h' k (j + 1) ss xss := fun i r xs h1 h2 => by
  obtain ⟨a, b⟩ := m i r xs h1 h2
  have mr := List.mem_of_getElem? h1
  have mq := List.mem_of_getElem? hq
  refine ⟨?_, b.at fun o => e _ o (fun x => D.il q mq r mr x.symm)⟩
  by_cases ij : i = j
  · subst ij
    rw [hq] at h1
    cases h1
    rw [if_pos (Nat.lt_succ_self _)]
    exact hi
  · have ne : r.2.1 ≠ q.2.1 := fun x => ij (by
      obtain ⟨l1, e1⟩ := List.getElem?_eq_some_iff.mp h1
      obtain ⟨l2, e2⟩ := List.getElem?_eq_some_iff.mp hq
      have nd := List.pairwise_iff_getElem.mp D.nd
      rcases Nat.lt_trichotomy i j with lt | rfl | gt
      · exact absurd (by rw [List.getElem_map, List.getElem_map, e1, e2]; exact x) (nd i j (by rw [List.length_map]; exact l1) (by rw [List.length_map]; exact l2) lt)
      · rfl
      · exact absurd (by rw [List.getElem_map, List.getElem_map, e1, e2]; exact x.symm) (nd j i (by rw [List.length_map]; exact l2) (by rw [List.length_map]; exact l1) gt))
    have : (if i < j + 1 then k + 1 else k) = (if i < j then k + 1 else k) := by
      by_cases c : i < j
      · rw [if_pos c, if_pos (by omega)]
      · rw [if_neg c, if_neg (by omega)]
    rw [this]
    exact a.at fun o => e _ o ne
/-- what has been given out ahead -/
def Own (f0 : Value) : Prop := f0 = .none ∨ ∃ a, f0 = rawInt a
section
variable {prog : Program} {w : World} {A : Around} {E : Value → Shared → Prop} {s : Shared}
theorem alive {M : Model} {a : Addr} {Q : Option Obj → Shared → Prop} (h : Q (s.heap.get? a) s) : wpAny M A (loadIfAlive a) Q E s := fun _ _ _ => h
theorem set_mix {vs os : List Value} {j : Nat} {x : Value} (hl : os.length = vs.length) (hj : vs[j]? = some x) : (vs.take j ++ os.drop j).toArray.setIfInBounds j x = (vs.take (j + 1) ++ os.drop (j + 1)).toArray := by
  have hjl : j < vs.length := (List.getElem?_eq_some_iff.mp hj).1
  rw [List.setIfInBounds_toArray]
  congr 1
  have ho : os.drop j = os[j] :: os.drop (j + 1) := List.drop_eq_getElem_cons (by omega)
  have hlen : (vs.take j).length = j := by rw [List.length_take]; omega
  rw [ho, List.set_append_right _ _ (by omega), hlen, Nat.sub_self, List.set_cons_zero, List.take_add_one, hj]
  simp
theorem owned_free {z TI TO : Addr} {f0 f1 : Value} {Q : Bool → Shared → Prop} (hf : Own f0) (hz : IsZipN s.heap z TI TO f0 f1)
    (hQ : ∀ b h' f1', IsZipN h' z TI TO f0 f1' → Heap.SameBut z s.heap h' → Q b { s with heap := h' }) : wpAny (model prog w) A (Builtin.SmallTypes.ownedTupleIsFree (.ref z)) Q E s := by
  unfold Builtin.SmallTypes.ownedTupleIsFree
  refine wpAny_bind (wpAny_field hz rfl (x := f0) rfl ?_)
  rcases hf with rfl | ⟨a, rfl⟩
  · exact wpAny_pure (hQ true s.heap f1 hz (Heap.SameBut.refl ..))
  · show wpAny _ _ (loadIfAlive a.toNat >>= _) _ _ _
    refine wpAny_bind (alive ?_)
    cases s.heap.get? a.toNat with
    | none => exact wpAny_pure (hQ true s.heap f1 hz (Heap.SameBut.refl ..))
    | some o =>
      show wpAny _ _ (field (Value.ref z) 1 >>= _) _ _ _
      refine wpAny_bind (wpAny_field hz rfl (x := f1) rfl ?_)
      by_cases c : (f1 != Value.bool true) = true
      · rw [if_pos c]
        refine wpAny_bind (wpAny_setField_rec hz (by simp) fun h₁ hz₁ hs₁ => ?_)
        exact wpAny_pure (hQ false h₁ (.bool true) hz₁ hs₁)
      · rw [if_neg c]
        exact wpAny_pure (hQ false s.heap f1 hz (Heap.SameBut.refl ..))
end
end Zn

namespace Zn
open PySem
open PySem.Sem (wp)
section
variable {prog : Program} {w : World} {A : Around} {E : Value → Shared → Prop} {s : Shared}
/-- what stands after a turn -/
def After (z TI TO : Addr) (k : Nat) (ss : List Src) (xss : List (Array Value)) (vs : List Value) (h h' : Heap) : Prop :=
  (∃ f0 f1, Own f0 ∧ IsZipN h' z TI TO f0 f1) ∧ (∃ os, os.length = ss.length ∧ IsTupN h' TO os) ∧ At h' (k + 1) ss xss ∧ IsTupN h' h.objs.size vs ∧ h'.objs.size = h.objs.size + 1 ∧ Rest z TO ss h h'
theorem zip_item {z TI TO : Addr} {f0 f1 : Value} {ss : List Src} {xss : List (Array Value)} {k : Nat} {vs os : List Value} {Q : Value → Shared → Prop} (D : Apart z TI TO ss) (hne : ss ≠ []) (hl : xss.length = ss.length) (hv : vs.length = ss.length) (hsz : ss.length ≤ sizeLine)
    (hf : Own f0) (hz : IsZipN s.heap z TI TO f0 f1) (hTI : IsTupN s.heap TI (ss.map fun q => .ref q.2.1)) (hTO : IsTupN s.heap TO os) (ho : os.length = ss.length)
    (ha : At s.heap k ss xss) (hx : ∀ (j : Nat) (xs : Array Value), xss[j]? = some xs → xs[k]? = vs[j]?)
    (hQ : ∀ h', After z TI TO k ss xss vs s.heap h' → Q (.ref s.heap.objs.size) { s with heap := h' }) :
    wpAny (model prog w) A (Builtin.«zip.__next__» ⟨[.ref z], []⟩) (fun fin s' => ∃ v, fin = .done (.ret v) ∧ Q v s') E s := by
  show wpAny _ _ (field (.ref z) 2 >>= _) _ _ _
  refine wpAny_bind (wpAny_field hz rfl (x := .bool false) rfl ?_)
  show wpAny _ _ (field (.ref z) 3 >>= _) _ _ _
  refine wpAny_bind (wpAny_field hz rfl (x := .ref TI) rfl ?_)
  refine wpAny_bind (wpAny_seqItems hTI rfl ?_)
  have he : (ss.map fun q => Value.ref q.2.1).toArray.isEmpty = false := by
    cases ss with
    | nil => exact absurd rfl hne
    | cons a l => rfl
  simp only [he, Bool.false_eq_true, if_false]
  show wpAny _ _ (Builtin.SmallTypes.ownedTupleIsFree (.ref z) >>= _) _ _ _
  refine wpAny_bind (owned_free hf hz fun b h₀ f1' hz₀ hs₀ => ?_)
  have ha₀ : Mid h₀ k 0 ss xss := ha.mid.ext D fun c o c1 _ e => (hs₀.2 c c1).trans e
  have hTO₀ : IsTupN h₀ TO os := (hs₀.2 _ D.TOz).trans hTO
  have hTI₀ : IsTupN h₀ TI _ := (hs₀.2 _ D.TIz).trans hTI
  have at_ : ∀ {j q}, ss[j]? = some q → ∃ xs, xss[j]? = some xs ∧ ∃ x, vs[j]? = some x ∧ xs[k]? = some x := fun {j q} e => by
    have lj := (List.getElem?_eq_some_iff.mp e).1
    have e1 : xss[j]? = some xss[j] := List.getElem?_eq_getElem (by omega)
    have e2 : vs[j]? = some vs[j] := List.getElem?_eq_getElem (by omega)
    exact ⟨_, e1, _, e2, (hx j _ e1).trans e2⟩
  cases b with
  | true =>
    simp only [if_true]
    refine wpAny_bind (wpAny_rule ?_)
    refine wpAny_bind (wpAny_field hz₀ rfl (x := .ref TO) rfl ?_)
    refine wpAny_bind (wpAny_setField_rec hz₀ (by simp) fun h₁ hz₁ hs₁ => ?_)
    replace hz₁ : IsZipN h₁ z TI TO .ellipsis f1' := hz₁
    refine wpAny_bind ?_
    refine forIn_steps (List.map (fun q => Value.ref q.snd.fst) ss).zipIdx (fun _ => ((none : Option Fin), ())) (fun j s' => ∃ h, s' = { s with heap := h } ∧ h.objs.size = s.heap.objs.size ∧ Mid h k j ss xss ∧ IsZipN h z TI TO .ellipsis f1' ∧ IsTupN h TO (vs.take j ++ os.drop j) ∧ Rest z TO ss s.heap h) 0 _ ?_ ?_ ?_
    · rintro j ⟨a, ja⟩ s2 haj ⟨h, rfl, hsz2, hm, hzz, hto, hr⟩
      rw [Nat.zero_add] at hm hto ⊢
      obtain ⟨q, hq, ea, eja⟩ : ∃ q, ss[j]? = some q ∧ a = .ref q.2.1 ∧ ja = j := by
        rw [List.getElem?_zipIdx] at haj
        simp only [List.getElem?_map, Option.map_map, Option.map_eq_some_iff] at haj
        obtain ⟨q, hq, e⟩ := haj
        have e' := Prod.mk.inj e
        exact ⟨q, hq, e'.1.symm, by have := e'.2; omega⟩
      subst ea eja
      obtain ⟨xs, hxs, x, hvx, hxk⟩ := at_ hq
      have mq := List.mem_of_getElem? hq
      obtain ⟨i1, i2⟩ := hm ja q xs hq hxs
      rw [if_neg (Nat.lt_irrefl _)] at i1
      refine wpAny_bind (wpAny_onRaise ?_)
      show wpAny _ _ (Builtin.SmallTypes.nextOf (.ref q.2.1) >>= _) _ _ _
      refine wpAny_bind (next_item i1 i2 hxk fun h₂ i3 hs₂ => wpAny_pure ?_)
      have hto₂ : IsTupN h₂ TO _ := (hs₂.2 _ (D.iz q mq).2.2.symm).trans hto
      refine wpAny_bind (wpAny_seqItems hto₂ rfl ?_)
      have sz : (vs.take ja ++ os.drop ja).toArray.size ≤ sizeLine := by
        simp only [List.size_toArray, List.length_append, List.length_take, List.length_drop]
        omega
      refine wpAny_bind (wpAny_updateSeq hto₂ rfl ?_ sz (by rw [Array.size_setIfInBounds]; omega))
      have hs₃ := Heap.SameBut.update h₂ TO (Obj.mapSeq (·.setIfInBounds ja x))
      have hto₃ : IsTupN (h₂.update TO (Obj.mapSeq (·.setIfInBounds ja x))) TO (vs.take (ja + 1) ++ os.drop (ja + 1)) := by
        have := Heap.get?_update_self (Obj.mapSeq (·.setIfInBounds ja x)) hto₂ rfl
        refine this.trans ?_
        rw [← set_mix (by omega) hvx]
        simp [Obj.mapSeq]
      refine wpAny_bind (wpAny_letGo (wpAny_pure ⟨rfl, _, rfl, hs₃.1.trans (hs₂.1.trans hsz2), ?_, ?_, hto₃, ?_⟩))
      · exact (hm.step D hq i3 fun c o cn e => (hs₂.2 c cn).trans e).ext D fun c o _ c2 e => (hs₃.2 c c2).trans e
      · exact (hs₃.2 _ D.TOz.symm).trans ((hs₂.2 _ (D.iz q mq).1.symm).trans hzz)
      · exact fun c o c1 c2 c3 e => (hs₃.2 c c2).trans ((hs₂.2 c (c3 q mq)).trans (hr c o c1 c2 c3 e))
    · exact ⟨h₁, rfl, hs₁.1.trans hs₀.1, ha₀.ext D fun c o c1 _ e => (hs₁.2 c c1).trans e, hz₁, by rw [List.take_zero, List.nil_append, List.drop_zero]; exact (hs₁.2 _ D.TOz).trans hTO₀,
        fun c o c1 _ _ e => (hs₁.2 c c1).trans ((hs₀.2 c c1).trans e)⟩
    · rintro s2 ⟨h, rfl, hsz2, hm, hzz, hto, hr⟩
      have hlen : (List.map (fun q => Value.ref q.snd.fst) ss).zipIdx.length = ss.length := by rw [List.length_zipIdx, List.length_map]
      rw [Nat.zero_add, hlen] at hm hto
      have hto : IsTupN h TO vs := by
        have e : vs.take ss.length ++ os.drop ss.length = vs := by rw [List.take_of_length_le (by omega), List.drop_of_length_le (by omega), List.append_nil]
        rw [e] at hto
        exact hto
      show wpAny _ _ (seqItems? (.ref TO) >>= _) _ _ _
      refine wpAny_bind (wpAny_seqItems hto rfl ?_)
      refine wpAny_bind (wpAny_newTuple ?_ (by simp only [List.toList_toArray]; omega))
      have hzlt : z < h.objs.size := Heap.lt_size hzz
      have hz₆ : IsZipN (h.push { cls := .type "tuple", data := .seq vs.toArray }) z TI TO .ellipsis f1' := Heap.get?_push_of_some _ hzz
      show wpAny _ _ (Builtin.SmallTypes.ownedTupleHandOut (.ref z) (.ref h.objs.size) >>= _) _ _ _
      refine wpAny_bind ?_
      unfold Builtin.SmallTypes.ownedTupleHandOut
      refine wpAny_bind (wpAny_setField_rec hz₆ (by simp) fun h₇ hz₇ hs₇ => ?_)
      replace hz₇ : IsZipN h₇ z TI TO (rawInt h.objs.size) f1' := hz₇
      refine wpAny_setField_rec hz₇ (by simp) fun h₈ hz₈ hs₈ => ?_
      replace hz₈ : IsZipN h₈ z TI TO (rawInt h.objs.size) (.bool false) := hz₈
      have up : ∀ c o, c ≠ z → h.get? c = some o → h₈.get? c = some o := fun c o c1 e => (hs₈.2 c c1).trans ((hs₇.2 c c1).trans (Heap.get?_push_of_some _ e))
      have hT₈ : IsTupN h₈ h.objs.size vs := (hs₈.2 _ (Nat.ne_of_gt hzlt)).trans ((hs₇.2 _ (Nat.ne_of_gt hzlt)).trans (Heap.get?_push_size _ rfl))
      refine wpAny_pure ⟨_, rfl, ?_⟩
      show Q (.ref h.objs.size) _
      rw [hsz2] at hT₈ ⊢
      refine hQ h₈ ⟨⟨_, _, .inr ⟨_, rfl⟩, hz₈⟩, ⟨vs, hv, up _ _ D.TOz hto⟩, (hm.ext D fun c o c1 _ e => up c o c1 e).done rfl, hT₈, ?_, fun c o c1 c2 c3 e => up c o c1 (hr c o c1 c2 c3 e)⟩
      rw [hs₈.1, hs₇.1, Heap.size_push, hsz2]
  | false =>
    simp only [Bool.false_eq_true, if_false]
    refine wpAny_bind ?_
    rw [← Array.forIn_toList]
    refine forIn_steps (List.map (fun q => Value.ref q.snd.fst) ss) (fun j => ((none : Option Fin), (vs.take j).toArray)) (fun j s' => ∃ h, s' = { s with heap := h } ∧ h.objs.size = s.heap.objs.size ∧ Mid h k j ss xss ∧ IsZipN h z TI TO f0 f1' ∧ IsTupN h TO os ∧ Rest z TO ss s.heap h) 0 _ ?_ ?_ ?_
    · rintro j a s2 haj ⟨h, rfl, hsz2, hm, hzz, hto, hr⟩
      rw [Nat.zero_add] at hm ⊢
      obtain ⟨q, hq, ea⟩ : ∃ q, ss[j]? = some q ∧ a = .ref q.2.1 := by
        simp only [List.getElem?_map, Option.map_eq_some_iff] at haj
        obtain ⟨q, hq, e⟩ := haj
        exact ⟨q, hq, e.symm⟩
      subst ea
      obtain ⟨xs, hxs, x, hvx, hxk⟩ := at_ hq
      have mq := List.mem_of_getElem? hq
      obtain ⟨i1, i2⟩ := hm j q xs hq hxs
      rw [if_neg (Nat.lt_irrefl _)] at i1
      refine wpAny_bind (wpAny_holding ?_)
      show wpAny _ _ (Builtin.SmallTypes.nextOf (.ref q.2.1) >>= _) _ _ _
      refine wpAny_bind (next_item i1 i2 hxk fun h₂ i3 hs₂ => wpAny_pure ?_)
      refine wpAny_pure ⟨?_, h₂, rfl, hs₂.1.trans hsz2, hm.step D hq i3 fun c o cn e => (hs₂.2 c cn).trans e, (hs₂.2 _ (D.iz q mq).1.symm).trans hzz, (hs₂.2 _ (D.iz q mq).2.2.symm).trans hto, fun c o c1 c2 c3 e => (hs₂.2 c (c3 q mq)).trans (hr c o c1 c2 c3 e)⟩
      rw [List.take_add_one, hvx]
      simp
    · exact ⟨h₀, rfl, hs₀.1, ha₀, hz₀, hTO₀, fun c o c1 _ _ e => (hs₀.2 c c1).trans e⟩
    · rintro s2 ⟨h, rfl, hsz2, hm, hzz, hto, hr⟩
      rw [Nat.zero_add, List.length_map] at hm
      have e : (vs.take (0 + (List.map (fun q => Value.ref q.snd.fst) ss).length)) = vs := by rw [Nat.zero_add, List.length_map, List.take_of_length_le (by omega)]
      rw [e]
      refine wpAny_bind (wpAny_newTuple ?_ (by simp only [List.toList_toArray]; omega))
      have up : ∀ c o, h.get? c = some o → (h.push { cls := .type "tuple", data := .seq vs.toArray.toList.toArray }).get? c = some o := fun c o e => Heap.get?_push_of_some _ e
      refine wpAny_pure ⟨_, rfl, ?_⟩
      show Q (.ref h.objs.size) _
      rw [hsz2]
      refine hQ _ ⟨⟨_, _, hf, up _ _ hzz⟩, ⟨os, ho, up _ _ hto⟩, (hm.ext D fun c o _ _ e => up c o e).done rfl, ?_, ?_, fun c o c1 c2 c3 e => up c o (hr c o c1 c2 c3 e)⟩
      · rw [← hsz2]
        exact Heap.get?_push_size _ rfl
      · rw [Heap.size_push, hsz2]
end
end Zn

namespace Zn
open PySem
open PySem.Sem (wp)
section
variable {prog : Program} {w : World} {A : Around} {E : Value → Shared → Prop} {s : Shared}
/-- where the first source has come to its end, or there is none -/
def Out (h : Heap) (k : Nat) (ss : List Src) : Prop := ss = [] ∨ ∃ (q : Src) (xs : Array Value), ss[0]? = some q ∧ ItK q.1 h q.2.1 q.2.2 k ∧ SqK q.1 h q.2.2 xs ∧ xs[k]? = none
theorem stop_out {α : Type} {Q : α → Shared → Prop} (hh : A.handled = none) (hE : ∀ h' e, (∀ c o, s.heap.get? c = some o → h'.get? c = some o) → (∃ o, h'.get? e = some o ∧ o.cls = .type "StopIteration") → E (.ref e) { s with heap := h' }) :
    wpAny (model prog w) A (Builtin.SmallTypes.stopIteration : Sem α) Q E s := by
  show wpAny _ _ (newExc (.type "StopIteration") [] >>= _) _ _ _
  refine wpAny_bind ?_
  simp only [newExc, newTuple]
  refine wpAny_bind (wpAny_newObj_type ?_ (by size_fits))
  refine wpAny_bind (m := firstArgMember _ _) (wpAny_of_eq (a := Value.none) (by first | rfl | (simp only [firstArgMember]; rfl)) (wpAny_newObj_type ?_ (by size_fits)))
  simp only [raiseNew]
  refine wpAny_bind (wpAny_handled ?_)
  first | rw [show A.in1.handled = none from hh] | rw [hh]
  refine wpAny_bind (wpAny_pure (wpAny_throw ?_))
  exact hE _ _ (fun c o e => Heap.get?_push_of_some _ (Heap.get?_push_of_some _ e)) ⟨_, Heap.get?_push_size _ rfl, rfl⟩
theorem zip_end {z TI TO : Addr} {f0 f1 : Value} {ss : List Src} {k : Nat} {os : List Value} {Q : Fin → Shared → Prop} (hh : A.handled = none) (D : Apart z TI TO ss)
    (hf : Own f0) (hz : IsZipN s.heap z TI TO f0 f1) (hTI : IsTupN s.heap TI (ss.map fun q => .ref q.2.1)) (hTO : IsTupN s.heap TO os) (ho : os.length = ss.length)
    (hx : Out s.heap k ss)
    (hE : ∀ h' e, Rest z TO ss s.heap h' → (∃ o, h'.get? e = some o ∧ o.cls = .type "StopIteration") → E (.ref e) { s with heap := h' }) :
    wpAny (model prog w) A (Builtin.«zip.__next__» ⟨[.ref z], []⟩) Q E s := by
  show wpAny _ _ (field (.ref z) 2 >>= _) _ _ _
  refine wpAny_bind (wpAny_field hz rfl (x := .bool false) rfl ?_)
  show wpAny _ _ (field (.ref z) 3 >>= _) _ _ _
  refine wpAny_bind (wpAny_field hz rfl (x := .ref TI) rfl ?_)
  refine wpAny_bind (wpAny_seqItems hTI rfl ?_)
  match ss, D, hTI, ho, hx, hE with
  | [], D, hTI, ho, hx, hE =>
    show wpAny _ _ (rule _ >>= _) _ _ _
    refine wpAny_bind (wpAny_rule ?_)
    exact wpAny_bind (stop_out hh fun h' e k1 k2 => hE h' e (fun c o _ _ _ e => k1 c o e) k2)
  | q :: ss, D, hTI, ho, hx, hE =>
    obtain ⟨i0, s0⟩ : ∃ xs, ItK q.1 s.heap q.2.1 q.2.2 k ∧ SqK q.1 s.heap q.2.2 xs ∧ xs[k]? = none := by
      obtain ⟨q', xs, e, r⟩ := hx.resolve_left (fun e => nomatch e)
      cases e
      exact ⟨xs, r⟩
    obtain ⟨i0, s0, hxk⟩ := s0
    have he : (List.map (fun q => Value.ref q.2.1) (q :: ss)).toArray.isEmpty = false := rfl
    simp only [he, Bool.false_eq_true, if_false]
    show wpAny _ _ (Builtin.SmallTypes.ownedTupleIsFree (.ref z) >>= _) _ _ _
    refine wpAny_bind (owned_free hf hz fun b h₀ f1' hz₀ hs₀ => ?_)
    have mq : q ∈ q :: ss := List.mem_cons_self
    have i0 := i0.at fun o e => (hs₀.2 _ (D.iz q mq).1).trans e
    have s0 := s0.at fun o e => (hs₀.2 _ (D.lz q mq).1).trans e
    have e0 : (List.map (fun q => Value.ref q.2.1) (q :: ss)) = .ref q.2.1 :: List.map (fun q => Value.ref q.2.1) ss := rfl
    cases b with
    | true =>
      simp only [if_true]
      refine wpAny_bind (wpAny_rule ?_)
      refine wpAny_bind (wpAny_field hz₀ rfl (x := .ref TO) rfl ?_)
      refine wpAny_bind (wpAny_setField_rec hz₀ (by simp) fun h₁ hz₁ hs₁ => ?_)
      replace hz₁ : IsZipN h₁ z TI TO .ellipsis f1' := hz₁
      refine wpAny_bind ?_
      have i1 := i0.at fun o e => (hs₁.2 _ (D.iz q mq).1).trans e
      have i2 := s0.at fun o e => (hs₁.2 _ (D.lz q mq).1).trans e
      simp only [e0, List.zipIdx_cons, List.forIn_cons]
      refine wpAny_bind (wpAny_bind (wpAny_onRaise ?_))
      show wpAny _ _ (Builtin.SmallTypes.nextOf (.ref q.2.1) >>= _) _ _ _
      refine wpAny_bind (next_end hh i1 i2 hxk fun h₂ e hs₂ ⟨oe, hoe, hce⟩ => ?_)
      have hz₂ : IsZipN h₂ z TI TO .ellipsis f1' := hs₂ _ _ (D.iz q mq).1.symm hz₁
      have hez : e ≠ z := fun x => by
        rw [x, hz₂] at hoe
        cases hoe
        simp at hce
      refine wpAny_setField_rec hz₂ (by simp) fun h₃ _ hs₃ => hE h₃ e (fun c o c1 _ c3 x => (hs₃.2 c c1).trans (hs₂ _ _ (c3 q mq) ((hs₁.2 c c1).trans ((hs₀.2 c c1).trans x)))) ⟨oe, (hs₃.2 _ hez).trans hoe, hce⟩
    | false =>
      simp only [Bool.false_eq_true, if_false]
      refine wpAny_bind ?_
      rw [← Array.forIn_toList]
      simp only [e0, List.forIn_cons]
      refine wpAny_bind (wpAny_bind (wpAny_holding ?_))
      show wpAny _ _ (Builtin.SmallTypes.nextOf (.ref q.2.1) >>= _) _ _ _
      refine wpAny_bind (next_end hh i0 s0 hxk fun h₂ e hs₂ he => hE h₂ e (fun c o c1 _ c3 x => hs₂ _ _ (c3 q mq) ((hs₀.2 c c1).trans x)) he)
theorem next_zip {z TI TO : Addr} {f0 f1 : Value} {ss : List Src} {xss : List (Array Value)} {k : Nat} {vs os : List Value} {Q : Option Value → Shared → Prop} (D : Apart z TI TO ss) (hne : ss ≠ []) (hl : xss.length = ss.length) (hv : vs.length = ss.length) (hsz : ss.length ≤ sizeLine)
    (hf : Own f0) (hz : IsZipN s.heap z TI TO f0 f1) (hTI : IsTupN s.heap TI (ss.map fun q => .ref q.2.1)) (hTO : IsTupN s.heap TO os) (ho : os.length = ss.length)
    (ha : At s.heap k ss xss) (hx : ∀ (j : Nat) (xs : Array Value), xss[j]? = some xs → xs[k]? = vs[j]?)
    (hQ : ∀ h', After z TI TO k ss xss vs s.heap h' → Q (some (.ref s.heap.objs.size)) { s with heap := h' }) : wpAny (model prog w) A (pyNext (.ref z)) Q E s := by
  have hT : s.TypeIs (.ref z) "zip" := ⟨_, hz, rfl⟩
  unfold pyNext
  exact wpAny_bind (wpAny_attempt (wpAny_callSpecial?_slot (name := Str.ofString "__next__") hT F.slot_zip_next (wpAny_call_entry F.slot_zip_next hT F.entry_zip_next
    (zip_item D hne hl hv hsz hf hz hTI hTO ho ha hx fun h' a => wpAny_pure (hQ h' a)) (F.args_zip_next_1 _))))
theorem next_zip_end {z TI TO : Addr} {f0 f1 : Value} {ss : List Src} {k : Nat} {os : List Value} {Q : Option Value → Shared → Prop} (hh : A.handled = none) (D : Apart z TI TO ss)
    (hf : Own f0) (hz : IsZipN s.heap z TI TO f0 f1) (hTI : IsTupN s.heap TI (ss.map fun q => .ref q.2.1)) (hTO : IsTupN s.heap TO os) (ho : os.length = ss.length)
    (hx : Out s.heap k ss)
    (hQ : ∀ h', Rest z TO ss s.heap h' → Q none { s with heap := h' }) : wpAny (model prog w) A (pyNext (.ref z)) Q E s := by
  have hT : s.TypeIs (.ref z) "zip" := ⟨_, hz, rfl⟩
  unfold pyNext
  refine wpAny_bind (wpAny_attempt (wpAny_callSpecial?_slot (name := Str.ofString "__next__") hT F.slot_zip_next (wpAny_call_entry F.slot_zip_next hT F.entry_zip_next
    (zip_end hh D hf hz hTI hTO ho hx fun h' e hk he => ?_) (F.args_zip_next_1 _))))
  obtain ⟨o, ho, hc⟩ := he
  exact wpAny_bind (wpAny_isInstance (T := "StopIteration") (b := true) ⟨o, ho, hc⟩ isSubtype_stop (wpAny_pure (hQ _ hk)))
/-- the step ahead of the store, for any target -/
theorem go_zip {tg : Expr} {z TI TO T : Addr} {f0 f1 : Value} {Q : Unit → Shared → Prop} (hf : Own f0) (hz : IsZipN s.heap z TI TO f0 f1)
    (hQ : ∀ h' f0', Own f0' → IsZipN h' z TI TO f0' f1 → Heap.SameBut z s.heap h' → Q () { s with heap := h' }) : wpAny (model prog w) A (letOwnedTupleGo tg (.ref z) (.ref T)) Q E s := by
  have same := hQ s.heap f0 hf hz (Heap.SameBut.refl ..)
  have main : wpAny (model prog w) A (do
      let o ← load z
      match o.cls, o.data with
      | .type n, .fields vs =>
        if ["enumerate", "zip", "dict_itemiterator", "dict_reverseitemiterator", "odict_iterator", "itertools.zip_longest", "itertools.pairwise"].contains n && vs[0]? == some (rawInt T) then
          rule "for.unpacks-the-owned-tuple"
          updateField z 0 .none
      | _, _ => pure ()) Q E s := by
    refine wpAny_bind (wpAny_load hz ?_)
    by_cases c : (["enumerate", "zip", "dict_itemiterator", "dict_reverseitemiterator", "odict_iterator", "itertools.zip_longest", "itertools.pairwise"].contains "zip" && (#[f0, f1, .bool false, .ref TI, .ref TO] : Array Value)[0]? == some (rawInt T)) = true
    · show wpAny _ _ (if _ then _ else _) _ _ _
      rw [if_pos c]
      refine wpAny_bind (wpAny_rule ?_)
      show wpAny _ _ (setField (.ref z) 0 .none) Q E s
      exact wpAny_setField_rec hz (by simp) fun h' hz' hs' => hQ h' .none (.inl rfl) hz' hs'
    · show wpAny _ _ (if _ then _ else _) _ _ _
      rw [if_neg c]
      exact wpAny_pure same
  unfold letOwnedTupleGo
  cases tg <;> first
    | exact wpAny_pure same
    | exact main
end
end Zn

namespace Zn
open PySem PySem.F
theorem tc : ∀ us : List Value, us.length ≤ 12 → checkTypeCall "zip" ⟨us, []⟩ = pure ()
  | [], _ => by kernel_rfl
  | [a0], _ => by kernel_rfl
  | [a0, a1], _ => by kernel_rfl
  | [a0, a1, a2], _ => by kernel_rfl
  | [a0, a1, a2, a3], _ => by kernel_rfl
  | [a0, a1, a2, a3, a4], _ => by kernel_rfl
  | [a0, a1, a2, a3, a4, a5], _ => by kernel_rfl
  | [a0, a1, a2, a3, a4, a5, a6], _ => by kernel_rfl
  | [a0, a1, a2, a3, a4, a5, a6, a7], _ => by kernel_rfl
  | [a0, a1, a2, a3, a4, a5, a6, a7, a8], _ => by kernel_rfl
  | [a0, a1, a2, a3, a4, a5, a6, a7, a8, a9], _ => by kernel_rfl
  | [a0, a1, a2, a3, a4, a5, a6, a7, a8, a9, a10], _ => by kernel_rfl
  | [a0, a1, a2, a3, a4, a5, a6, a7, a8, a9, a10, a11], _ => by kernel_rfl
  | _ :: _ :: _ :: _ :: _ :: _ :: _ :: _ :: _ :: _ :: _ :: _ :: _ :: _, h => by simp only [List.length_cons] at h; omega
theorem nc : ∀ us : List Value, us.length ≤ 12 → checkBuiltinCall "zip.__new__" ⟨.type "zip" :: us, []⟩ = pure ()
  | [], _ => by kernel_rfl
  | [a0], _ => by kernel_rfl
  | [a0, a1], _ => by kernel_rfl
  | [a0, a1, a2], _ => by kernel_rfl
  | [a0, a1, a2, a3], _ => by kernel_rfl
  | [a0, a1, a2, a3, a4], _ => by kernel_rfl
  | [a0, a1, a2, a3, a4, a5], _ => by kernel_rfl
  | [a0, a1, a2, a3, a4, a5, a6], _ => by kernel_rfl
  | [a0, a1, a2, a3, a4, a5, a6, a7], _ => by kernel_rfl
  | [a0, a1, a2, a3, a4, a5, a6, a7, a8], _ => by kernel_rfl
  | [a0, a1, a2, a3, a4, a5, a6, a7, a8, a9], _ => by kernel_rfl
  | [a0, a1, a2, a3, a4, a5, a6, a7, a8, a9, a10], _ => by kernel_rfl
  | [a0, a1, a2, a3, a4, a5, a6, a7, a8, a9, a10, a11], _ => by kernel_rfl
  | _ :: _ :: _ :: _ :: _ :: _ :: _ :: _ :: _ :: _ :: _ :: _ :: _ :: _, h => by simp only [List.length_cons] at h; omega
theorem oi (o : Value) : ∀ us : List Value, us.length ≤ 12 → argsOk "object.__init__" ⟨o :: us, []⟩ := by
  unfold argsOk
  rw [signature?_of (id := "object.__init__") (n := ['_', '_', 't', 'i', 'n', 'i', '_', '_']) (o := ['t', 'c', 'e', 'j', 'b', 'o']) (by kernel_rfl) owner_object]
  exact fun us h => match us, h with
  | [], _ => by kernel_rfl
  | [a0], _ => by kernel_rfl
  | [a0, a1], _ => by kernel_rfl
  | [a0, a1, a2], _ => by kernel_rfl
  | [a0, a1, a2, a3], _ => by kernel_rfl
  | [a0, a1, a2, a3, a4], _ => by kernel_rfl
  | [a0, a1, a2, a3, a4, a5], _ => by kernel_rfl
  | [a0, a1, a2, a3, a4, a5, a6], _ => by kernel_rfl
  | [a0, a1, a2, a3, a4, a5, a6, a7], _ => by kernel_rfl
  | [a0, a1, a2, a3, a4, a5, a6, a7, a8], _ => by kernel_rfl
  | [a0, a1, a2, a3, a4, a5, a6, a7, a8, a9], _ => by kernel_rfl
  | [a0, a1, a2, a3, a4, a5, a6, a7, a8, a9, a10], _ => by kernel_rfl
  | [a0, a1, a2, a3, a4, a5, a6, a7, a8, a9, a10, a11], _ => by kernel_rfl
  | _ :: _ :: _ :: _ :: _ :: _ :: _ :: _ :: _ :: _ :: _ :: _ :: _ :: _, h => by simp only [List.length_cons] at h; omega
end Zn

namespace Zn
open PySem
open PySem.Sem (wp)
/-- what is walked, at its place -/
def Laid (h : Heap) (bs : List (Bool × Addr)) (xss : List (Array Value)) : Prop := ∀ (j : Nat) (q : Bool × Addr) (xs : Array Value), bs[j]? = some q → xss[j]? = some xs → SqK q.1 h q.2 xs
/-- the sources of iterators that stand from n on -/
def srcs (n : Nat) (bs : List (Bool × Addr)) : List Src := bs.zipIdx.map fun q => (q.1.1, n + q.2, q.1.2)
theorem srcs_get {n : Nat} {bs : List (Bool × Addr)} {j : Nat} {q : Src} : (srcs n bs)[j]? = some q ↔ ∃ b, bs[j]? = some b ∧ q = (b.1, n + j, b.2) := by
  unfold srcs
  simp only [List.getElem?_map, List.getElem?_zipIdx, Option.map_map, Option.map_eq_some_iff, Nat.zero_add]
  constructor
  · rintro ⟨b, e, rfl⟩
    exact ⟨b, e, rfl⟩
  · rintro ⟨b, e, rfl⟩
    exact ⟨b, e, rfl⟩
theorem srcs_len {n : Nat} {bs : List (Bool × Addr)} : (srcs n bs).length = bs.length := by
  unfold srcs
  rw [List.length_map, List.length_zipIdx]
section
variable {prog : Program} {w : World} {A : Around} {E : Value → Shared → Prop} {s : Shared}
theorem iter_all {bs : List (Bool × Addr)} {xss : List (Array Value)} {Q : List Value → Shared → Prop} (hl : xss.length = bs.length) (hb : Laid s.heap bs xss)
    (hQ : ∀ h', h'.objs.size = s.heap.objs.size + bs.length → (∀ c o, s.heap.get? c = some o → h'.get? c = some o) → At h' 0 (srcs s.heap.objs.size bs) xss → Q ((srcs s.heap.objs.size bs).map fun q => .ref q.2.1) { s with heap := h' }) :
    wpAny (model prog w) A (Builtin.SmallTypes.iterAll (bs.map fun q => .ref q.2)) Q E s := by
  unfold Builtin.SmallTypes.iterAll
  refine wpAny_bind ?_
  refine forIn_steps (bs.map fun q => Value.ref q.2) (fun j => (((srcs s.heap.objs.size bs).map fun q => Value.ref q.2.1).take j).toArray)
    (fun j s' => ∃ h, s' = { s with heap := h } ∧ h.objs.size = s.heap.objs.size + j ∧ (∀ c o, s.heap.get? c = some o → h.get? c = some o) ∧ ∀ (i : Nat) (q : Src) (xs : Array Value), i < j → (srcs s.heap.objs.size bs)[i]? = some q → xss[i]? = some xs → ItK q.1 h q.2.1 q.2.2 0) 0 _ ?_ ?_ ?_
  · rintro j a s2 haj ⟨h, rfl, hz, hk, hi⟩
    rw [Nat.zero_add] at hz hi ⊢
    obtain ⟨q, hq, rfl⟩ : ∃ q, bs[j]? = some q ∧ Value.ref q.2 = a := by
      simpa only [List.getElem?_map, Option.map_eq_some_iff] using haj
    have lj := (List.getElem?_eq_some_iff.mp hq).1
    have e1 : xss[j]? = some xss[j] := List.getElem?_eq_getElem (by omega)
    have hs := hb j q _ hq e1
    refine wpAny_bind (wpAny_holding (iter_seq (s := { s with heap := h }) (hs.at fun o e => hk _ _ e) fun h' z1 k1 i1 => ?_))
    have z1 : h'.objs.size = h.objs.size + 1 := z1
    have i1 : ItK q.1 h' h.objs.size q.2 0 := i1
    have k1 : ∀ c o, h.get? c = some o → h'.get? c = some o := k1
    have eq : (srcs s.heap.objs.size bs)[j]? = some (q.1, s.heap.objs.size + j, q.2) := srcs_get.mpr ⟨q, hq, rfl⟩
    refine wpAny_pure ⟨?_, h', rfl, by omega, fun c o e => k1 c o (hk c o e), fun i r xs hij hr hx => ?_⟩
    · show ForInStep.yield ((List.take j _).toArray.push (Value.ref h.objs.size)) = _
      rw [List.take_add_one, List.getElem?_map, eq, hz]
      simp
    · by_cases c : i = j
      · subst c
        rw [eq] at hr
        cases hr
        rw [← hz]
        exact i1
      · exact (hi i r xs (by omega) hr hx).at fun o e => k1 _ _ e
  · exact ⟨s.heap, rfl, rfl, fun _ _ e => e, fun i q xs hi => absurd hi (Nat.not_lt_zero _)⟩
  · rintro s2 ⟨h, rfl, hz, hk, hi⟩
    rw [Nat.zero_add, List.length_map] at hz hi ⊢
    have e : List.take bs.length ((srcs s.heap.objs.size bs).map fun q => Value.ref q.2.1) = (srcs s.heap.objs.size bs).map fun q => Value.ref q.2.1 := List.take_of_length_le (by rw [List.length_map, srcs_len]; exact Nat.le_refl _)
    rw [e]
    refine wpAny_pure ?_
    refine hQ h hz hk fun i q xs hq hx => ⟨hi i q xs (by rw [← srcs_len (n := s.heap.objs.size)]; exact (List.getElem?_eq_some_iff.mp hq).1) hq hx, ?_⟩
    obtain ⟨b, hbq, rfl⟩ := srcs_get.mp hq
    exact (hb i b xs hbq hx).at fun o e => hk _ _ e
end
theorem class_zip (us : List Value) : Builtin.SmallTypes.newClass "zip" ⟨.type "zip" :: us, []⟩ = pure (.type "zip", us) := by
  unfold Builtin.SmallTypes.newClass
  show (isType (.type "zip") >>= _) = _
  have h1 : isType (.type "zip") = pure true := rfl
  simp only [h1, pure_bind, sub_zip]
  rfl
theorem meets_new (bs : List (Bool × Addr)) (xss : List (Array Value)) (hl : xss.length = bs.length) (hz : bs.length ≤ sizeLine) :
    Meets (Builtin.«zip.__new__» ⟨.type "zip" :: bs.map (fun q => .ref q.2), []⟩) (fun _ R s => Laid s.heap bs xss ∧ ∀ h', (∀ c o, s.heap.get? c = some o → h'.get? c = some o) → h'.objs.size = s.heap.objs.size + bs.length + 3 →
      At h' 0 (srcs s.heap.objs.size bs) xss → IsTupN h' (s.heap.objs.size + bs.length) ((srcs s.heap.objs.size bs).map fun q => .ref q.2.1) → IsTupN h' (s.heap.objs.size + bs.length + 1) ((srcs s.heap.objs.size bs).map fun _ => .none) →
      IsZipN h' (s.heap.objs.size + bs.length + 2) (s.heap.objs.size + bs.length) (s.heap.objs.size + bs.length + 1) .none (.bool false) → R (.ok (.ret (.ref (s.heap.objs.size + bs.length + 2)))) { s with heap := h' }) :=
  .of_wp fun prog w A R s h => by
    obtain ⟨hb, h⟩ := h
    unfold Builtin.«zip.__new__»
    refine wpAny_bind (wpAny_of_eq (class_zip _) ?_)
    show wpAny _ _ (Builtin.SmallTypes.iterAll _ >>= _) _ _ _
    refine wpAny_bind (iter_all hl hb fun h' z1 k1 a1 => ?_)
    have hs2 : ((srcs s.heap.objs.size bs).map fun q => Value.ref q.2.1).length ≤ sizeLine := by rw [List.length_map, srcs_len]; exact hz
    refine wpAny_bind (wpAny_newTuple ?_ hs2)
    refine wpAny_bind (wpAny_newTuple ?_ (by rw [List.length_map]; exact hs2))
    have p1 : ∀ {hh : Heap} {x y : Obj} {c o}, hh.get? c = some o → ((hh.push x).push y).get? c = some o := fun e => Heap.get?_push_of_some _ (Heap.get?_push_of_some _ e)
    refine wpAny_bind ?_
    unfold Builtin.SmallTypes.newRecord
    refine wpAny_newObj_type (wpAny_pure ⟨_, rfl, ?_⟩) (by show 5 ≤ sizeLine + 2; decide)
    have s1 : (h'.push ({ cls := .type "tuple", data := .seq (List.map (fun q => Value.ref q.snd.fst) (srcs s.heap.objs.size bs)).toArray } : Obj)).objs.size = s.heap.objs.size + bs.length + 1 := by rw [Heap.size_push, z1]
    have s2 : ((h'.push ({ cls := .type "tuple", data := .seq (List.map (fun q => Value.ref q.snd.fst) (srcs s.heap.objs.size bs)).toArray } : Obj)).push ({ cls := .type "tuple", data := .seq (List.map (fun _ => Value.none) (List.map (fun q => Value.ref q.snd.fst) (srcs s.heap.objs.size bs))).toArray } : Obj)).objs.size = s.heap.objs.size + bs.length + 2 := by rw [Heap.size_push, s1]
    show R (Except.ok (Flow.ret (Value.ref (Heap.objs (Heap.push _ _)).size))) _
    rw [s2]
    refine h _ (fun c o e => Heap.get?_push_of_some _ (p1 (k1 c o e))) ?_ (fun i q xs hq hx => ?_) ?_ ?_ ?_
    · show (Heap.objs (Heap.push _ _)).size = _
      rw [Heap.size_push, s2]
    · obtain ⟨b, hbq, e⟩ := srcs_get.mp hq
      obtain ⟨x1, x2⟩ := a1 i q xs hq hx
      exact ⟨x1.at fun o e => Heap.get?_push_of_some _ (p1 e), x2.at fun o e => Heap.get?_push_of_some _ (p1 e)⟩
    · rw [← z1]
      exact Heap.get?_push_of_some _ (Heap.get?_push_of_some _ (Heap.get?_push_size _ rfl))
    · rw [← s1]
      refine (Heap.get?_push_of_some _ (Heap.get?_push_size _ rfl)).trans ?_
      rw [List.map_map]
      rfl
    · rw [← s2]
      refine (Heap.get?_push_size _ rfl).trans ?_
      show some ({ cls := .type "zip", data := .fields #[.none, .bool false, Value.bool false, Value.ref h'.objs.size, Value.ref (h'.push ({ cls := .type "tuple", data := .seq (List.map (fun q => Value.ref q.snd.fst) (srcs s.heap.objs.size bs)).toArray } : Obj)).objs.size] } : Obj) = _
      rw [s1, z1]
section
variable {prog : Program} {w : World} {A : Around} {E : Value → Shared → Prop} {s : Shared}
theorem call_zipN {bs : List (Bool × Addr)} {xss : List (Array Value)} {Q : Value → Shared → Prop} (hl : xss.length = bs.length) (hz : bs.length ≤ 12) (hb : Laid s.heap bs xss)
    (h : ∀ h', (∀ c o, s.heap.get? c = some o → h'.get? c = some o) → h'.objs.size = s.heap.objs.size + bs.length + 3 →
      At h' 0 (srcs s.heap.objs.size bs) xss → IsTupN h' (s.heap.objs.size + bs.length) ((srcs s.heap.objs.size bs).map fun q => .ref q.2.1) → IsTupN h' (s.heap.objs.size + bs.length + 1) ((srcs s.heap.objs.size bs).map fun _ => .none) →
      IsZipN h' (s.heap.objs.size + bs.length + 2) (s.heap.objs.size + bs.length) (s.heap.objs.size + bs.length + 1) .none (.bool false) → Q (.ref (s.heap.objs.size + bs.length + 2)) { s with heap := h' }) :
    wpAny (model prog w) A (call (.type "zip") (bs.map fun q => .ref q.2)) Q E s := by
  have hn : (bs.map fun q => Value.ref q.2).length ≤ 12 := by rw [List.length_map]; exact hz
  refine callType_new F.called_zip (by decide) (tc _ hn) (nc _ hn) (fun obj => oi obj _ hn) F.entry_zip_new (meets_new bs xss hl (Nat.le_trans hz (by decide))) ⟨hb, fun h' k z a t1 t2 iz => ?_⟩
  show _ ∧ _
  exact ⟨⟨_, iz, rfl⟩, h h' k z a t1 t2 iz⟩
theorem self_zip {z TI TO : Addr} {f0 f1 : Value} {Q : Value → Shared → Prop} (hz : IsZipN s.heap z TI TO f0 f1) (h : Q (.ref z) s) : wpAny (model prog w) A (pyIter (.ref z)) Q E s := by
  have hT : s.TypeIs (.ref z) "zip" := ⟨_, hz, rfl⟩
  refine wpAny_pyIter_slot hT F.slot_zip_iter (wpAny_call_entry F.slot_zip_iter hT F.entry_zip_iter ?_ (F.args_zip_iter_1 _))
  show wpAny _ _ (ret (.ref z)) _ _ s
  exact wpAny_pure ⟨_, rfl, "zip", _, hT, F.slot_zip_next.lookup, h⟩
end
end Zn

namespace Zn
open PySem PySem.Spec PyProof.Rows L2
/-- a list or a tuple of values -/
def SqV (K : PySem.W.Frag) (H : Hp) (b : Bool) (p : Addr) (xs : List V) : Prop := if b then SqL K H p xs else SqT K H p xs
theorem SqV.any {K : PySem.W.Frag} {H : Hp} {b : Bool} {p : Addr} {xs : List V} (h : SqV K H b p xs) : SqT K H p xs ∨ SqL K H p xs := by
  cases b
  · exact .inl h
  · exact .inr h
theorem SqV.get {X : Cx} {pins : List (Addr × Obj)} {σ : L2.St} {H : Hp} {s : Shared} {b : Bool} {p : Addr} {xs : List V} (I : Inv X pins σ H s) (h : SqV X.K H b p xs) : ∃ us, Vals xs us ∧ SqK b s.heap p us.toArray := by
  cases b
  · obtain ⟨its, r, pl, _⟩ := I.tuple h
    exact ⟨its, r, pl⟩
  · obtain ⟨its, r, pl, _⟩ := I.list h
    exact ⟨its, r, pl.isList⟩
theorem SqV.inj {X : Cx} {pins : List (Addr × Obj)} {σ : L2.St} {H : Hp} {s : Shared} {b : Bool} {p : Addr} {xs ys : List V} (I : Inv X pins σ H s) (h : SqV X.K H b p xs) (h' : SqV X.K H b p ys) : xs = ys := by
  cases b
  · exact I.tuple_inj h h'
  · exact I.list_inj h h'
abbrev Bs := List (Bool × Addr)
/-- the sources stand, each with its row -/
inductive Rws (K : PySem.W.Frag) (H : Hp) : Bs → List (List V) → Prop
  | nil : Rws K H [] []
  | cons {q : Bool × Addr} {xs : List V} {bs : Bs} {xss : List (List V)} : SqV K H q.1 q.2 xs → Rws K H bs xss → Rws K H (q :: bs) (xs :: xss)
/-- the items at i -/
inductive Col (i : Nat) : List (List V) → List V → Prop
  | nil : Col i [] []
  | cons {xs : List V} {x : V} {xss : List (List V)} {vs : List V} : xs[i]? = some x → Col i xss vs → Col i (xs :: xss) (x :: vs)
theorem Col.len {i : Nat} {xss : List (List V)} {vs : List V} (c : Col i xss vs) : vs.length = xss.length := by
  induction c with
  | nil => rfl
  | cons _ _ ih => rw [List.length_cons, List.length_cons, ih]
theorem Col.of {i : Nat} : ∀ {xss : List (List V)}, (∀ xs ∈ xss, i < xs.length) → ∃ vs, Col i xss vs
  | [], _ => ⟨[], .nil⟩
  | xs :: xss, h => by
    obtain ⟨vs, c⟩ := Col.of fun ys hy => h ys (List.mem_cons_of_mem _ hy)
    exact ⟨xs[i]'(h xs List.mem_cons_self) :: vs, .cons (List.getElem?_eq_getElem _) c⟩
theorem Col.inj {i : Nat} {xss : List (List V)} {vs ws : List V} (c : Col i xss vs) (d : Col i xss ws) : vs = ws := by
  induction c generalizing ws with
  | nil => cases d; rfl
  | cons e c ih =>
    cases d with
    | cons e' d => rw [e] at e'; cases e'; rw [ih d]
/-- the objects behind them -/
theorem rows_get {X : Cx} {pins : List (Addr × Obj)} {σ : L2.St} {H : Hp} {s : Shared} (I : Inv X pins σ H s) {bs : Bs} {xss : List (List V)} (h : Rws X.K H bs xss) :
    ∃ us : List (List Value), us.length = bs.length ∧ Laid s.heap bs (us.map List.toArray) ∧ ∀ (i : Nat) (vs : List V), Col i xss vs → ∃ ws, Vals vs ws ∧ ws.length = bs.length ∧ ∀ (j : Nat) (u : Array Value), (us.map List.toArray)[j]? = some u → u[i]? = ws[j]? := by
  induction h with
  | nil =>
    refine ⟨[], rfl, (fun j q xs h1 => by simp at h1), fun i vs c => ?_⟩
    cases c
    exact ⟨[], .nil, rfl, fun j u h => by simp at h⟩
  | cons a t ih =>
    obtain ⟨us, l1, l2, l3⟩ := ih
    obtain ⟨u, r, k⟩ := SqV.get I a
    refine ⟨u :: us, by rw [List.length_cons, List.length_cons, l1], fun j q xs h1 h2 => ?_, fun i vs c => ?_⟩
    · cases j with
      | zero => cases h1; cases h2; exact k
      | succ j => exact l2 j q xs h1 h2
    · cases c with
      | cons e c =>
        obtain ⟨ws, r1, n1, g⟩ := l3 i _ c
        obtain ⟨y, hy, ry⟩ := r.get e
        refine ⟨y :: ws, .cons ry r1, by rw [List.length_cons, List.length_cons, n1], fun j u' h => ?_⟩
        cases j with
        | zero =>
          cases h
          simpa using hy
        | succ j => exact g j u' h
theorem Rws.inj {X : Cx} {pins : List (Addr × Obj)} {σ : L2.St} {H : Hp} {s : Shared} (I : Inv X pins σ H s) {bs : Bs} {xss yss : List (List V)} (h : Rws X.K H bs xss) (h' : Rws X.K H bs yss) : xss = yss := by
  induction h generalizing yss with
  | nil => cases h'; rfl
  | cons a t ih =>
    cases h' with
    | cons a' t' => rw [SqV.inj I a a', ih t']
/-- the tuples that zip gives out -/
def ItzN (K : PySem.W.Frag) (bs : Bs) : It :=
  ⟨fun i H => ∃ xss, Rws K H bs xss ∧ bs ≠ [] ∧ ∀ xs ∈ xss, i < xs.length,
    fun i H v H' => ∃ T vs, v = .ref T ∧ H T = none ∧ H' = upd H T (.tup vs) ∧ ∀ xss, Rws K H bs xss → Col i xss vs,
    fun i H => bs = [] ∨ ∃ q xs, bs[0]? = some q ∧ SqV K H q.1 q.2 xs ∧ xs.length ≤ i⟩

/-- where the parts of a zip stand -/
structure ZFits (n : Nat) (bs : Bs) : Prop where
  low : ∀ q ∈ bs, (show Nat from q.2) < n
theorem ZFits.apart {n : Nat} {bs : Bs} (F : ZFits n bs) : Apart (n + bs.length + 2) (n + bs.length) (n + bs.length + 1) (srcs n bs) := by
  have each : ∀ q ∈ srcs n bs, ∃ j : Nat, j < bs.length ∧ (show Nat from q.2.1) = n + j ∧ (show Nat from q.2.2) < n := fun q hq => by
    obtain ⟨j, hj⟩ := List.getElem?_of_mem hq
    obtain ⟨b, hb, rfl⟩ := srcs_get.mp hj
    exact ⟨j, (List.getElem?_eq_some_iff.mp hb).1, rfl, F.low b (List.mem_of_getElem? hb)⟩
  have ne : ∀ {a b : Nat}, a ≠ b → (show Addr from a) ≠ b := fun h => h
  refine ⟨ne (by omega), ne (by omega), ne (by omega), fun q hq => ?_, fun q hq => ?_, fun q hq r hr => ?_, ?_⟩
  · obtain ⟨j, h1, h2, h3⟩ := each q hq
    exact ⟨fun e => absurd (h2.symm.trans e) (by omega), fun e => absurd (h2.symm.trans e) (by omega), fun e => absurd (h2.symm.trans e) (by omega)⟩
  · obtain ⟨j, h1, h2, h3⟩ := each q hq
    have lt : ∀ m : Nat, n ≤ m → q.2.2 ≠ m := fun m hm e => by
      have h3' : (show Nat from m) < n := by rw [← show q.2.2 = m from e]; exact h3
      exact absurd h3' (Nat.not_lt.mpr hm)
    exact ⟨lt _ (Nat.le_add_right_of_le (Nat.le_add_right _ _)), lt _ (Nat.le_add_right _ _), lt _ (Nat.le_add_right_of_le (Nat.le_add_right _ _))⟩
  · obtain ⟨j, h1, h2, h3⟩ := each q hq
    obtain ⟨j', h1', h2', h3'⟩ := each r hr
    intro e
    have h4 : (show Nat from r.2.2) = n + j := by rw [← show q.2.1 = r.2.2 from e]; exact h2
    exact absurd h3' (by rw [h4]; exact Nat.not_lt.mpr (Nat.le_add_right _ _))
  · refine List.pairwise_iff_getElem.mpr fun i j hi hj lt e => ?_
    have get : ∀ k (h : k < ((srcs n bs).map (·.2.1)).length), ((srcs n bs).map (·.2.1))[k] = n + k := fun k h => by
      have hk : k < (srcs n bs).length := by rw [List.length_map] at h; exact h
      obtain ⟨b, hb, e⟩ := srcs_get.mp (List.getElem?_eq_getElem hk)
      rw [List.getElem_map, e]
    rw [get, get] at e
    exact absurd (Nat.add_left_cancel e) (Nat.ne_of_lt lt)
/-- its own objects -/
def zfp (n : Nat) (bs : Bs) : List Addr := (n + bs.length + 2) :: (n + bs.length) :: (n + bs.length + 1) :: (srcs n bs).map (·.2.1)
/-- how they stand at turn i -/
def ztn (n : Nat) (bs : Bs) (i : Nat) (h : Heap) : Prop := (∃ f0 f1, Own f0 ∧ IsZipN h (n + bs.length + 2) (n + bs.length) (n + bs.length + 1) f0 f1) ∧ IsTupN h (n + bs.length) ((srcs n bs).map fun q => .ref q.2.1) ∧
  (∃ os, os.length = (srcs n bs).length ∧ IsTupN h (n + bs.length + 1) os) ∧ ∀ q ∈ srcs n bs, ItK q.1 h q.2.1 q.2.2 i
theorem ztn_obj {n : Nat} {bs : Bs} {i : Nat} {h : Heap} (st : ztn n bs i h) : ∀ c ∈ zfp n bs, ∃ o, h.get? c = some o ∧ ∀ v, o.data ≠ .cell v := fun c hc => by
  obtain ⟨⟨f0, f1, _, iz⟩, t1, ⟨os, _, t2⟩, its⟩ := st
  have hc : c = n + bs.length + 2 ∨ c = n + bs.length ∨ c = n + bs.length + 1 ∨ ∃ q ∈ srcs n bs, q.2.1 = c := by
    simpa only [zfp, List.mem_cons, List.mem_map] using hc
  rcases hc with rfl | rfl | rfl | ⟨q, hq, rfl⟩
  · exact ⟨_, iz, fun v q => nomatch q⟩
  · exact ⟨_, t1, fun v q => nomatch q⟩
  · exact ⟨_, t2, fun v q => nomatch q⟩
  · obtain ⟨o, e, _, d⟩ := (its q hq).obj
    exact ⟨o, e, d⟩
theorem zat {n : Nat} {bs : Bs} {i : Nat} {h : Heap} {xss : List (Array Value)} (a : ∀ q ∈ srcs n bs, ItK q.1 h q.2.1 q.2.2 i) (l : Laid h bs xss) : At h i (srcs n bs) xss := fun j q xs h1 h2 => by
  refine ⟨a q (List.mem_of_getElem? h1), ?_⟩
  obtain ⟨b, hb, rfl⟩ := srcs_get.mp h1
  exact l j b xs hb h2
theorem rws_len {K : PySem.W.Frag} {H : Hp} {bs : Bs} {xss : List (List V)} (h : Rws K H bs xss) : xss.length = bs.length := by
  induction h with
  | nil => rfl
  | cons _ _ ih => rw [List.length_cons, List.length_cons, ih]
theorem turn_zipN {P : Program} {w : World} {K : PySem.W.Frag} {tg : Expr} {n : Nat} {bs : Bs} (F : ZFits n bs) (hz : bs.length ≤ 12) : Turn P w K tg (ItzN K bs) (zfp n bs) (n + bs.length + 2) (ztn n bs) where
  mem := List.mem_cons_self
  obj := fun i h st => ztn_obj st
  keep := fun i h h' st k => by
    obtain ⟨⟨f0, f1, of, iz⟩, t1, ⟨os, ol, t2⟩, its⟩ := st
    exact ⟨⟨f0, f1, of, k _ (by simp [zfp]) _ iz⟩, k _ (by simp [zfp]) _ t1, ⟨os, ol, k _ (by simp [zfp]) _ t2⟩, fun q hq => (its q hq).at fun o e => k _ (by
      simp only [zfp, List.mem_cons, List.mem_map]
      exact .inr (.inr (.inr ⟨q, hq, rfl⟩))) o e⟩
  item := by
    intro X hP hw hK hc i pins s σ H E I hf st hg
    subst hP hw hK
    have ob := ztn_obj st
    obtain ⟨⟨f0, f1, of, iz⟩, t1, ⟨os, ol, t2⟩, its⟩ := st
    obtain ⟨xss, rw_, hne, hlt⟩ := hg
    obtain ⟨us, lu, la, cu⟩ := rows_get I rw_
    obtain ⟨vs, cv⟩ := Col.of hlt
    obtain ⟨ws, rv, lw, cw⟩ := cu i vs cv
    have sl := srcs_len (n := n) (bs := bs)
    have s12 : 12 ≤ sizeLine := by decide
    have hne' : srcs n bs ≠ [] := fun e => hne (List.eq_nil_of_length_eq_zero (by rw [← sl, e]; rfl))
    have hzl : n + bs.length + 2 < s.heap.objs.size := Heap.lt_size iz
    refine next_zip F.apart hne' (by rw [List.length_map, lu, sl]) (by rw [lw, sl]) (by rw [sl]; omega) of iz t1 t2 ol (zat its la) cw fun h' af => ?_
    obtain ⟨⟨g0, g1, og, iz'⟩, ⟨os', ol', t2'⟩, at', tn', sz', rest⟩ := af
    refine ⟨_, rfl, go_zip (s := { s with heap := h' }) og iz' fun h'' g0' og' iz'' sb => ?_⟩
    have away : ∀ c o, c ∉ zfp n bs → s.heap.get? c = some o → h''.get? c = some o := fun c o hc e => by
      have hc : ¬ (c = n + bs.length + 2 ∨ c = n + bs.length ∨ c = n + bs.length + 1 ∨ ∃ q ∈ srcs n bs, q.2.1 = c) := by
        simpa only [zfp, List.mem_cons, List.mem_map] using hc
      exact (sb.2 c fun x => hc (.inl x)).trans (rest c o (fun x => hc (.inl x)) (fun x => hc (.inr (.inr (.inl x)))) (fun q hq x => hc (.inr (.inr (.inr ⟨q, hq, x.symm⟩)))) e)
    have hT2 : h''.get? s.heap.objs.size = some { cls := .type "tuple", data := .seq ws.toArray } := (sb.2 _ (Nat.ne_of_gt hzl)).trans tn'
    have lvs : vs.length = bs.length := by rw [cv.len, rws_len rw_]
    have new : ObjOk X.prog X.w (upd H s.heap.objs.size (.tup vs)) h'' s.heap.objs.size (.tup vs) := ⟨by show vs.length ≤ sizeLine; omega, ws, rv, ⟨_, hT2, rfl, _, rfl⟩⟩
    have I1 : Inv X pins σ (upd H s.heap.objs.size (.tup vs)) { s with heap := h'' } := I.turnedNew (t' := s.toks) (ch := zfp n bs) (fun c o hb q => away c o hb q) hf (Nat.le_refl _) new
    refine ⟨.ref s.heap.objs.size, _, I1, rfl, ⟨_, vs, rfl, I.hok.fresh (Nat.le_refl _), rfl, fun yss hy => by rw [Rws.inj I hy rw_]; exact cv⟩, ⟨⟨g0', g1, og', iz''⟩, (sb.2 _ F.apart.TIz).trans (rest _ _ F.apart.TIz F.apart.TITO (fun q hq x => (F.apart.iz q hq).2.1 x.symm) t1), ⟨os', ol', (sb.2 _ F.apart.TOz).trans t2'⟩, fun q hq => ?_⟩, fun c hcm => ?_⟩
    · obtain ⟨j, hj⟩ := List.getElem?_of_mem hq
      have jl : j < bs.length := by rw [← sl]; exact (List.getElem?_eq_some_iff.mp hj).1
      have z := (at' j q _ hj (List.getElem?_eq_getElem (by rw [List.length_map, lu]; exact jl))).1
      exact z.at fun o e => (sb.2 _ (F.apart.iz q hq).1).trans e
    · obtain ⟨o, e, _⟩ := ob c hcm
      rw [upd_ne (Nat.ne_of_lt (Heap.lt_size e))]
      exact (hf c hcm).1
  done := by
    intro X hP hw hK hc i pins s σ H E I hf st hg
    subst hP hw hK
    obtain ⟨⟨f0, f1, of, iz⟩, t1, ⟨os, ol, t2⟩, its⟩ := st
    have out : Out s.heap i (srcs n bs) := by
      rcases hg with rfl | ⟨q, xs, hq, sv, hl⟩
      · exact .inl rfl
      · obtain ⟨us, r, k⟩ := SqV.get I sv
        have e : (srcs n bs)[0]? = some (q.1, n + 0, q.2) := srcs_get.mpr ⟨q, hq, rfl⟩
        exact .inr ⟨_, us.toArray, e, its _ (List.mem_of_getElem? e), k, by simpa using (by rw [← r.length]; exact hl : us.length ≤ i)⟩
    exact next_zip_end (I.ok.hd hc) F.apart of iz t1 t2 ol out fun h' rest => ⟨rfl, I.turnedL (t' := s.toks) (ch := zfp n bs) (fun c o hb q => by
      have hb : ¬ (c = n + bs.length + 2 ∨ c = n + bs.length ∨ c = n + bs.length + 1 ∨ ∃ q ∈ srcs n bs, q.2.1 = c) := by
        simpa only [zfp, List.mem_cons, List.mem_map] using hb
      exact rest c o (fun x => hb (.inl x)) (fun x => hb (.inr (.inr (.inl x)))) (fun q hq x => hb (.inr (.inr (.inr ⟨q, hq, x.symm⟩)))) q) hf⟩
  self := fun A i s Q E st h => by
    obtain ⟨⟨f0, f1, _, iz⟩, _⟩ := st
    exact self_zip iz h

def iZipS (K : PySem.W.Frag) (te : TE) : TI := fun σ H R => te σ H fun y H1 => ∃ (a : Addr) (bs : Bs) (xss : List (List V)), y = V.ref a ∧ (SqT K H1 a (bs.map fun q => V.ref q.2) ∨ SqL K H1 a (bs.map fun q => V.ref q.2)) ∧ bs.length ≤ 12 ∧ Rws K H1 bs xss ∧ R (ItzN K bs) H1
def iZipP (K : PySem.W.Frag) (ta : TA) : TI := fun σ H R => ta σ H fun vs H1 => ∃ (p q : Bool × Addr) (xs ys : List V), vs = [V.ref p.2, V.ref q.2] ∧ SqV K H1 p.1 p.2 xs ∧ SqV K H1 q.1 q.2 ys ∧ R (ItzN K [p, q]) H1
theorem vals_refs : ∀ {bs : Bs} {us : List Value}, Vals (bs.map fun q => V.ref q.2) us → us = bs.map fun q => Value.ref q.2
  | [], _, .nil => rfl
  | q :: bs, _, .cons r t => by
    cases r
    rw [vals_refs t]
    rfl
section
variable {X : Cx} {pins : List (Addr × Obj)} {σ : L2.St} {H : Hp} {s : Shared}
/-- the zip is made and asked for its iterator -/
theorem zip_made {tg : Expr} {bs : Bs} {xss : List (List V)} {R : It → Hp → Prop} (I : Inv X pins σ H s) (hz : bs.length ≤ 12) (rw_ : Rws X.K H bs xss) (q : R (ItzN X.K bs) H) :
    wpAny (model X.prog X.w) X.A (call (.type "zip") (bs.map fun q => Value.ref q.2)) (fun v s1 => wpAny (model X.prog X.w) X.A (pyIter v) (PIE X pins σ tg R) X.xe s1) X.xe s := by
  obtain ⟨us, lu, la, _⟩ := rows_get I rw_
  have F : ZFits s.heap.objs.size bs := ⟨fun q hq => by
    obtain ⟨j, hj⟩ := List.getElem?_of_mem hq
    have jl := (List.getElem?_eq_some_iff.mp hj).1
    obtain ⟨o, ho, _⟩ := (la j q _ hj (List.getElem?_eq_getElem (by rw [List.length_map, lu]; exact jl))).obj
    exact Heap.lt_size ho⟩
  refine call_zipN (xss := us.map List.toArray) (by rw [List.length_map, lu]) hz la fun h' k sz at' t1 t2 iz => self_zip (s := { s with heap := h' }) iz ?_
  have sl := srcs_len (n := s.heap.objs.size) (bs := bs)
  refine ⟨_, zfp s.heap.objs.size bs, ztn s.heap.objs.size bs, _, H, rfl, I.kept (t' := s.toks) k, turn_zipN F hz, ⟨⟨_, _, .inl rfl, iz⟩, t1, ⟨_, by rw [List.length_map], t2⟩, fun q hq => ?_⟩, fun c hc => ?_, q⟩
  · obtain ⟨j, hj⟩ := List.getElem?_of_mem hq
    have jl : j < bs.length := by rw [← sl]; exact (List.getElem?_eq_some_iff.mp hj).1
    exact (at' j q _ hj (List.getElem?_eq_getElem (by rw [List.length_map, lu]; exact jl))).1
  · have hc : c = s.heap.objs.size + bs.length + 2 ∨ c = s.heap.objs.size + bs.length ∨ c = s.heap.objs.size + bs.length + 1 ∨ ∃ q ∈ srcs s.heap.objs.size bs, q.2.1 = c := by
      simpa only [zfp, List.mem_cons, List.mem_map] using hc
    have hle : s.heap.objs.size ≤ c := by
      rcases hc with rfl | rfl | rfl | ⟨q, hq, rfl⟩
      · exact Nat.le_add_right_of_le (Nat.le_add_right _ _)
      · exact Nat.le_add_right _ _
      · exact Nat.le_add_right_of_le (Nat.le_add_right _ _)
      · obtain ⟨j, hj⟩ := List.getElem?_of_mem hq
        obtain ⟨b, _, rfl⟩ := srcs_get.mp hj
        exact Nat.le_add_right _ _
    exact I.fpOk hle (I.hok.fresh hle)
/-- zip(*e): any number of lists and tuples -/
theorem pi_zipS {tg e : Expr} {te : TE} {p sp pos : Pos} (hg : Gl X "zip") (hm : X.mg "zip" = none) (he : PE X e te) (hst : starEach [.Starred e sp] X.env = [(true, eval e X.env)] := by rfl) :
    PI X tg (.Call (.Name "zip" p) [.Starred e sp] [] pos) (iZipS X.K te) := by
  refine ⟨fun pins s σ H R I h => ?_⟩
  refine Call_ (ld_blt I hg hm PyProof.Rows.boot_zip ?_)
  rw [hst]
  refine PySem.W.ks_call (P := fun _ => True) rfl (fun h _ => ⟨.machine, .inr (.inl rfl), PySem.W.Looks.of_pure rfl⟩) (PySem.W.ks_lone (thn (he.run pins s σ H _ I h) fun v s1 ⟨y, H1, I1, ry, a, bs, xss, ey, hx, hz, rw_, q⟩ => ?_))
  subst ey
  obtain rfl : v = Value.ref a := ry
  refine StX.star_any I1 hx fun us s2 I2 rv => ⟨trivial, ?_⟩
  rw [vals_refs rv]
  exact zip_made I2 hz rw_ q
/-- zip(e, e2): each a list or a tuple -/
theorem pi_zipP {tg e e2 : Expr} {ta : TA} {p pos : Pos} (hg : Gl X "zip") (hm : X.mg "zip" = none) (ha : PA X [e, e2] ta)
    (hs : starEach [e, e2] X.env = (false, eval e X.env) :: starEach [e2] X.env := by rfl) (hpl : (backTo pos (starEach [e2] X.env)).any (·.1) = false := by rfl) :
    PI X tg (.Call (.Name "zip" p) [e, e2] [] pos) (iZipP X.K ta) := by
  refine ⟨fun pins s σ H R I h => ?_⟩
  refine Call_ (ld_blt I hg hm PyProof.Rows.boot_zip (PyProof.Rows.callWith_type1 (thn (ha.run pos pins s σ H _ I h) fun us s1 ⟨vs, H1, I1, r1, p, q, xs, ys, ev, h1, h2, qq⟩ => ?_) hs hpl))
  subst ev
  have e := vals_refs (bs := [p, q]) r1
  subst e
  exact zip_made I1 (show 2 ≤ 12 by decide) (.cons h1 (.cons h2 .nil)) qq
end
end Zn

namespace Gd
open PySem L2
theorem sIx_nat {n d i : Nat} (h : i ≤ n) : HT.sIx n d (some (i : Int)) = i := by
  rw [HT.sIx_nat, Nat.min_eq_left h]
theorem cut_to {xs : List V} {i : Nat} (h : i ≤ xs.length) : cutV xs none (some (i : Int)) = xs.take i := by
  unfold cutV
  rw [sIx_nat h]
  show (xs.drop 0).take (i - 0) = _
  rw [List.drop_zero, Nat.sub_zero]
theorem cut_from {xs : List V} {i : Nat} (h : i ≤ xs.length) : cutV xs (some (i : Int)) none = xs.drop i := by
  unfold cutV
  rw [sIx_nat h]
  show (xs.drop i).take (xs.length - i) = _
  exact List.take_of_length_le (by rw [List.length_drop]; omega)
theorem cut_mid {xs : List V} {i k : Nat} (h : i + k ≤ xs.length) : cutV xs (some (i : Int)) (some ((i + k : Nat) : Int)) = (xs.drop i).take k := by
  unfold cutV
  rw [sIx_nat h, sIx_nat (d := 0) (show i ≤ xs.length by omega), Nat.add_sub_cancel_left]
theorem ixN_nat {n i : Nat} (h : i < n) : ixN n (i : Int) = some i := by
  unfold ixN
  rw [if_pos (by omega), if_pos (by omega)]
  rfl
end Gd

namespace Gd
open PySem PySem.Spec PyProof.Rows L2
/-! ### how often a text is in a list of None, ints, texts and tuples -/
inductive Sim (H : Hp) : V → Prop
  | non : Sim H .non
  | int (i : Int) : Sim H (.int i)
  | str (x : Str) : Sim H (.str x)
  | tup {a : Addr} {xs : List V} : H a = some (.tup xs) → Sim H (.ref a)
def isTx (k : Str) : V → Bool
  | .str x => x == k
  | _ => false
def isTxV (k : Str) : Value → Bool
  | .str x _ => x == k
  | _ => false
theorem isTx_rel {k : Str} {H : Hp} : ∀ {xs : List V} {us : List Value}, Vals xs us → (∀ x ∈ xs, Sim H x) → us.countP (isTxV k) = xs.countP (isTx k)
  | _, _, .nil, _ => rfl
  | _, _, .cons (a := x) (b := u) r rs, h => by
    have ih := isTx_rel (k := k) rs fun x hx => h x (List.mem_cons_of_mem _ hx)
    rw [List.countP_cons, List.countP_cons, ih]
    have e : isTxV k u = isTx k x := by
      cases h x List.mem_cons_self with
      | non => cases r; rfl
      | int i => obtain ⟨t, rfl⟩ := r; rfl
      | str y => obtain ⟨t, rfl⟩ := r; rfl
      | tup _ => cases r; rfl
    rw [e]
section
variable {X : Cx}
theorem mt_lcountS (hu : X.A.units + 100 < cLine) : MtR X "list.count" (fun x xs H Q => ∃ (p : Addr) (ys : List V) (k : Str), x = .ref p ∧ xs = [.str k] ∧ H p = some (.lst ys) ∧ (∀ y ∈ ys, Sim H y) ∧ Q (.int (ys.countP (isTx k) : Nat)) H) := by
  intro pn s σ H x xs v us Q I rx rxs h
  obtain ⟨p, ys, k, rfl, rfl, hp, hy, q⟩ := h
  cases rx
  obtain ⟨u, rfl, t, rfl⟩ := rxs.one
  obtain ⟨its, rv, ⟨⟨cls, dd, data, sl⟩, n, ho, hc, hdn, hd⟩, hlen⟩ := I.list (SqL.of hp)
  simp only at hc hd
  subst hc hd
  have key : ∀ (ys : List V) (its : List Value), Vals ys its → (∀ y ∈ ys, Sim H y) → ∀ z ∈ its, SeqAt.EqAt X.A.in1 s z (.str k t) (isTxV k z) := by
    intro ys its rv hy z hz
    induction rv with
    | nil => exact nomatch hz
    | @cons y ys z0 its r rs ih =>
      rcases List.mem_cons.mp hz with rfl | hz
      · cases hy y List.mem_cons_self with
        | non => cases r; exact SeqAt.EqAt.none_str k t
        | int i => obtain ⟨t', rfl⟩ := r; exact SeqAt.EqAt.int_str i t' k t
        | str y => obtain ⟨t', rfl⟩ := r; exact SeqAt.EqAt.str_str y t' k t
        | tup ha =>
          cases r
          obtain ⟨ts, _, ⟨o, e, hcl, m, hdt⟩, _⟩ := I.tuple (SqT.of ha)
          exact SeqAt.EqAt.tuple_str k t ⟨o, e, hcl, m, hdt⟩ (by
            show X.A.in1.units < cLine
            rw [Around.in1_units]
            omega)
      · exact ih (fun y hy' => hy y (List.mem_cons_of_mem _ hy')) hz
  refine call_meets PySem.F.slot_list_count ⟨_, ho, rfl⟩ PySem.F.entry_list_count (PySem.F.args_list_count_2 _ _)
    (SeqAt.list_countAt p its.toArray n dd sl (.str k t) (isTxV k)) ⟨ho, fun z hz => key ys its rv hy z (by simpa using hz), ?_⟩
  refine ⟨.int (ys.countP (isTx k) : Nat), H, I.tok _, ⟨s.toks, ?_⟩, q⟩
  show Value.int ((its.toArray.toList.countP (isTxV k) : Nat) : Int) s.toks = _
  rw [show its.toArray.toList = its from rfl, isTx_rel rv hy]
end
end Gd
namespace Gd
open PySem PySem.Spec PyProof.Rows L2
/-! a built-in's method within a comprehension: the fragment by its own name -/
theorem pe_bmK {X : Cx} {K : PySem.W.Frag} {o e : Expr} {es : List Expr} {to : TE} {t : TA} {name : Str} {apos cpos : Pos} {T id : String} {r : V → List V → Hp → VK → Prop} (hK : X.K = K) (pa : PlainAttrs T) (slot : Slot T name id) (hty : typeOf (.builtin id) = pure (.type "method_descriptor")) (hm : MtR X id r) (ho : PE X o to) (ha : PA X (e :: es) t)
    (hbase : attributeBase o name X.env (eval o X.env) = eval o X.env := by rfl)
    (hfew : ((backTo cpos (starEach (e :: es) X.env)).all (fun x => !x.1) && (backToKw cpos (keywordEach [] X.env)).all (fun x => x.1.isSome) && decide ((e :: es).length + ([] : List Keyword).length + (if ([] : List Keyword).isEmpty then 0 else 1) < 30)) = true := by rfl)
    (hline : (apos.endLine == cpos.line) = true := by rfl) (hs : starEach (e :: es) X.env = (false, eval e X.env) :: starEach es X.env := by rfl) (hplain : (backTo cpos (starEach es X.env)).any (·.1) = false := by rfl) :
    PE X (.Call (.Attribute o name apos) (e :: es) [] cpos) (tBM K T r to t) := by
  subst hK
  exact pe_bm pa slot hty hm ho ha hbase hfew hline hs hplain
theorem pe_bm0K {X : Cx} {K : PySem.W.Frag} {o : Expr} {to : TE} {name : Str} {apos cpos : Pos} {T id : String} {r : V → List V → Hp → VK → Prop} (hK : X.K = K) (pa : PlainAttrs T) (slot : Slot T name id) (hty : typeOf (.builtin id) = pure (.type "method_descriptor")) (hm : MtR X id r) (ho : PE X o to)
    (hbase : attributeBase o name X.env (eval o X.env) = eval o X.env := by rfl) (hline : (apos.endLine == cpos.line) = true := by rfl) : PE X (.Call (.Attribute o name apos) [] [] cpos) (tBM0 K T r to) := by
  subst hK
  exact pe_bm0 pa slot hty hm ho hbase hline
end Gd
namespace Gd
open PySem PySem.Spec PyProof.Rows L2
/-! == and != of data within a comprehension -/
theorem op_eqDK {X : Cx} {K : PySem.W.Frag} (hK : X.K = K) (hu : X.A.units + 64 < cLine) : OpR X (compareOp .Eq) (rEqD K) := by
  subst hK
  exact op_eqD hu
theorem op_neDK {X : Cx} {K : PySem.W.Frag} (hK : X.K = K) (hu : X.A.units + 64 < cLine) : OpR X (compareOp .NotEq) (rNeD K) := by
  subst hK
  exact op_neD hu
end Gd

/-! min(xs, default=d) of a list of ints -/
namespace Zn
open PySem PySem.Spec PyProof.Rows L2
section
variable {prog : Program} {w : World} {A : Around} {s : Shared} {R : Result → Shared → Prop} {l it bst : Addr} {its : Array Value} {val : Nat → Int}
theorem minD_loop (kw : List (Str × Value)) (hv : ∀ (i : Nat) (v : Value), its[i]? = some v → ∃ t, v = Value.int (val i) t) (hh : A.in1.handled = none) (hli : l ≠ it) (hbi : bst ≠ it) (hbl : bst ≠ l) :
    ∀ (r j b : Nat) (s : Shared) (vb : Value) (c : Nat), its.size - j = r → j ≤ its.size → s.heap.IsListIter it l j → s.heap.IsList l its → its[b]? = some vb → b < j → (∀ i, i < j → val b ≤ val i) →
      s.heap.get? bst = some { cls := .type "list", dict := none, data := .seq #[vb, vb] c, slots := #[] } →
      (∀ v h' tk b, its[b]? = some v → (∀ i, i < its.size → val b ≤ val i) → (∀ x o, x ≠ it → x ≠ bst → s.heap.get? x = some o → h'.get? x = some o) → R (.ok (.ret v)) { s with heap := h', toks := tk }) →
      codeAny (model prog w) A (.builtin "min.loop" ⟨[.ref it, .none, .ref bst], kw⟩) R s := by
  have word : (toString "min" ++ toString ".loop" : String) = "min.loop" := by decide
  have W := Walks.list (prog := prog) (w := w) (A := A.in1) hh it l hli its
  intro r
  induction r with
  | zero =>
    intro j b s vb c hr hj i1 i2 hb hbj least hS fin
    have ej : j = its.size := by omega
    subst ej
    refine codeAny_builtin PySem.F.entry_min_loop ?_
    rw [Around.under_plainId PySem.F.plain_min_loop _]
    show wpAny _ A.in1 (seqItems? (.ref bst) >>= _) _ _ _
    refine wpAny_bind (wpAny_seqItems hS rfl (?_ : wpAny _ A.in1 (tryCatch (pyNext (.ref it)) _ >>= _) _ _ _))
    refine wpAny_bind (wpAny_tryCatch (W.done s _ _ ⟨i1, i2⟩ fun h' tk kept => ?_))
    have hS2 := kept bst _ (by simpa using hbi) hS
    refine (?_ : wpAny _ A.in1 (updateSeq bst (fun _ => #[]) >>= _) _ _ _)
    refine wpAny_bind (wpAny_updateSeq hS2 rfl (wpAny_bind (wpAny_letGo (wpAny_pure (fin vb _ tk b hb least fun x o x1 x2 e => ?_)))))
    exact (Heap.get?_update_other _ _ (Ne.symm x2)).trans (kept x o (by simpa using x1) e)
  | succ r ih =>
    intro j b s vb c hr hj i1 i2 hb hbj least hS fin
    have lt : j < its.size := by omega
    refine codeAny_builtin PySem.F.entry_min_loop ?_
    rw [Around.under_plainId PySem.F.plain_min_loop _]
    show wpAny _ A.in1 (seqItems? (.ref bst) >>= _) _ _ _
    refine wpAny_bind (wpAny_seqItems hS rfl (?_ : wpAny _ A.in1 (tryCatch (pyNext (.ref it)) _ >>= _) _ _ _))
    refine wpAny_bind (wpAny_tryCatch (W.item j s _ _ lt ⟨i1, i2⟩ fun v h' tk hP st kept => ?_))
    have hS2 := kept bst _ (by simpa using hbi) hS
    obtain ⟨t1, e1⟩ := hv j v hP
    obtain ⟨t2, e2⟩ := hv b vb hb
    refine (?_ : wpAny _ A.in1 (tryCatch (holding [v, v] (richCompare .Lt v vb >>= _)) _ >>= _) _ _ _)
    refine wpAny_bind (wpAny_tryCatch (wpAny_holding (wpAny_bind (CmpOf.ints_lt (prog := prog) (w := w) (A := A.in1) (P := fun i v => ∃ t, v = Value.int (val i) t) val (fun i v h => h) j b v vb _ _ _ ⟨t1, e1⟩ ⟨t2, e2⟩ (wpAny_bind (wpAny_holding (wpAny_truthy_bool ?_)))))))
    refine wpAny_bind (wpAny_letGo (wpAny_pure ?_))
    by_cases q : (val j < val b)
    · simp only [decide_eq_true q, if_true]
      refine wpAny_bind (wpAny_updateSeq hS2 rfl (wpAny_bind (wpAny_letGo ?_)))
      rw [word]
      have sb := Heap.SameBut.update h' bst (Obj.mapSeq fun _ => #[v, v])
      refine wpAny_pure ⟨plainId_quiet PySem.F.plain_min_loop _, ih (j + 1) j _ v _ (by omega) lt (st.1.extBut sb.extBut hbi.symm) (st.2.extBut sb.extBut hbl.symm) hP (Nat.lt_succ_self _) (fun i hi => ?_) (Heap.get?_update_self _ hS2 rfl) fun v' h2 tk2 b' g1 g2 g3 => ?_⟩
      · by_cases c : (i = j)
        · rw [c]
          exact Int.le_refl _
        · exact Int.le_of_lt (Int.lt_of_lt_of_le q (least i (by omega)))
      · exact fin v' h2 tk2 b' g1 g2 fun x o x1 x2 e => g3 x o x1 x2 ((sb.2 x x2).trans (kept x o (by simpa using x1) e))
    · simp only [decide_eq_false q, Bool.false_eq_true, if_false]
      refine wpAny_bind (wpAny_letGo ?_)
      rw [word]
      refine wpAny_pure ⟨plainId_quiet PySem.F.plain_min_loop _, ih (j + 1) b _ vb c (by omega) lt st.1 st.2 hb (by omega) (fun i hi => ?_) hS2 fun v' h2 tk2 b' g1 g2 g3 => ?_⟩
      · by_cases c : (i = j)
        · rw [c]
          exact Int.not_lt.mp q
        · exact least i (by omega)
      · exact fin v' h2 tk2 b' g1 g2 fun x o x1 x2 e => g3 x o x1 x2 (kept x o (by simpa using x1) e)
end
theorem ints_at {its : List Value} {ns : List Int} (hi : IntsAre its ns) : ∀ (i : Nat) (v : Value), its[i]? = some v → ∃ t, v = Value.int (ns.getD i 0) t := by
  induction hi with
  | nil => exact fun i v e => by simp at e
  | cons n t r ih =>
    intro i v e
    cases i with
    | zero =>
      cases e
      exact ⟨t, rfl⟩
    | succ i => exact ih i v e
theorem minD_args (a v : Value) : argsOk "min" ⟨[a], [(Str.ofString "default", v)]⟩ := by unfold argsOk; kernel_rfl
section
variable {prog : Program} {w : World} {A : Around} {E : Value → Shared → Prop} {s : Shared}
theorem minD_raw {l : Addr} {its : List Value} {ns : List Int} {d : Value} {Q : Value → Shared → Prop} (hh : A.handled = none) (hl : s.heap.IsList l its.toArray) (hi : IntsAre its ns)
    (h0 : ∀ h' tk, (∀ b o, s.heap.get? b = some o → h'.get? b = some o) → ns = [] → Q d { s with heap := h', toks := tk })
    (h1 : ∀ h' tk m t', (∀ b o, s.heap.get? b = some o → h'.get? b = some o) → m ∈ ns → (∀ a ∈ ns, m ≤ a) → Q (.int m t') { s with heap := h', toks := tk }) :
    wpAny (model prog w) A (call (.builtin "min") [.ref l] [("default", d)]) Q E s := by
  have word : (toString "min" ++ toString ".loop" : String) = "min.loop" := by decide
  refine kmb_tree PySem.F.kind_min PySem.F.plain_min PySem.F.entry_min (minD_args _ _) ?_
  show wpAny _ A.in1 (Builtin.Builtins.bindParams "min" ["key", "default"] 0 ⟨[], [("default", d)]⟩ >>= _) _ _ s
  refine wpAny_bind (wpAny_of_eq (show Builtin.Builtins.bindParams "min" ["key", "default"] 0 ⟨[], [("default", d)]⟩ = pure [none, some d] from rfl) ?_)
  refine wpAny_bind (wpAny_pure ?_)
  refine wpAny_bind (wpAny_pyIter_list hl ?_)
  refine wpAny_bind (wpAny_newObj_type ?_)
  rw [word]
  have e1 : its = [] ∨ 0 < its.length := by
    cases its with
    | nil => exact .inl rfl
    | cons a l => exact .inr (Nat.succ_pos _)
  have it1 : (s.heap.push { cls := .type "list_iterator", data := .fields #[.ref l, .int 0 0] }).objs.size = s.heap.objs.size + 1 := Heap.size_push ..
  have nS : ∀ {o : Obj}, o.isFreed = false → (((s.heap.push { cls := .type "list_iterator", data := .fields #[.ref l, .int 0 0] }).push o).get? (s.heap.objs.size + 1)) = some o := fun hf => by
    rw [← it1]
    exact Heap.get?_push_size _ hf
  have nI : ∀ {o : Obj}, ((s.heap.push { cls := .type "list_iterator", data := .fields #[.ref l, .int 0 0] }).push o).IsListIter s.heap.objs.size l 0 := ⟨_, Heap.get?_push_of_some _ (Heap.get?_push_size _ rfl), rfl, rfl⟩
  have nL : ∀ {o : Obj}, ((s.heap.push { cls := .type "list_iterator", data := .fields #[.ref l, .int 0 0] }).push o).IsList l its.toArray := (hl.push _).push _
  have ll : l < s.heap.objs.size := by
    obtain ⟨o, ho, _⟩ := hl
    exact Heap.lt_size ho
  have hv : ∀ (i : Nat) (v : Value), its.toArray[i]? = some v → ∃ t, v = Value.int (ns.getD i 0) t := fun i v e => ints_at hi i v (by simpa using e)
  have hlen : its.length = ns.length := hi.length
  have W := Walks.list (prog := prog) (w := w) (A := A.in1) hh s.heap.objs.size l (Nat.ne_of_lt ll) its.toArray
  refine wpAny_pure ⟨plainId_quiet PySem.F.plain_min_loop _, ?_⟩
  refine codeAny_builtin PySem.F.entry_min_loop ?_
  rw [Around.under_plainId PySem.F.plain_min_loop _]
  show wpAny _ A.in1 (seqItems? (.ref _) >>= _) _ _ _
  rw [it1]
  refine wpAny_bind (wpAny_seqItems (nS rfl) rfl (?_ : wpAny _ A.in1 (tryCatch (pyNext (.ref s.heap.objs.size)) _ >>= _) _ _ _))
  rcases e1 with e0 | e1
  · refine wpAny_bind (wpAny_tryCatch (W.done _ _ _ ⟨by rw [e0]; exact nI, nL⟩ fun h' tk kept => ?_))
    refine wpAny_bind (wpAny_rule (wpAny_pure ?_))
    have n0 : ns = [] := List.eq_nil_of_length_eq_zero (by rw [← hlen, e0]; rfl)
    exact h0 h' tk (fun b o e => kept b o (by simpa using Nat.ne_of_lt (Heap.lt_size e)) (Heap.get?_push_of_some _ (Heap.get?_push_of_some _ e))) n0
  · refine wpAny_bind (wpAny_tryCatch (W.item 0 _ _ _ (by simpa using e1) ⟨nI, nL⟩ fun v h' tk hP st kept => ?_))
    have hS2 := kept (s.heap.objs.size + 1) _ (by simp) (nS rfl)
    refine (?_ : wpAny _ A.in1 (updateSeq (s.heap.objs.size + 1) (fun _ => #[v, v]) >>= _) _ _ _)
    refine wpAny_bind (wpAny_updateSeq hS2 rfl ?_)
    rw [word]
    have sb := Heap.SameBut.update h' (s.heap.objs.size + 1) (Obj.mapSeq fun _ => #[v, v])
    have n1 : s.heap.objs.size ≠ s.heap.objs.size + 1 := Nat.ne_of_lt (Nat.lt_succ_self _)
    have n2 : l ≠ s.heap.objs.size + 1 := Nat.ne_of_lt (Nat.lt_succ_of_lt ll)
    refine wpAny_pure ⟨plainId_quiet PySem.F.plain_min_loop _, minD_loop _ hv hh (Nat.ne_of_lt ll) n1.symm n2.symm _ 1 0 _ v _ rfl (by simpa using Nat.succ_le_of_lt e1) (st.1.extBut sb.extBut n1) (st.2.extBut sb.extBut n2) hP Nat.one_pos (fun i hi => ?_) (Heap.get?_update_self _ hS2 rfl) fun v' h2 tk2 b' g1 g2 g3 => ?_⟩
    · have : i = 0 := by omega
      rw [this]
      exact Int.le_refl _
    · obtain ⟨t, rfl⟩ := hv b' v' g1
      have bl : b' < ns.length := by
        have := (Array.getElem?_eq_some_iff.mp g1).1
        simpa [hlen] using this
      refine h1 h2 tk2 _ t (fun b o e => ?_) ?_ fun a ha => ?_
      · have lt := Heap.lt_size e
        exact g3 b o (Nat.ne_of_lt lt) (Nat.ne_of_lt (Nat.lt_succ_of_lt lt)) ((sb.2 b (Nat.ne_of_lt (Nat.lt_succ_of_lt lt))).trans (kept b o (by simpa using Nat.ne_of_lt lt) (Heap.get?_push_of_some _ (Heap.get?_push_of_some _ e))))
      · rw [List.getD_eq_getElem?_getD, List.getElem?_eq_getElem bl]
        exact List.getElem_mem bl
      · obtain ⟨j, hj, rfl⟩ := List.getElem_of_mem ha
        have := g2 j (by simpa [hlen] using hj)
        rw [show ns.getD j 0 = ns[j] by rw [List.getD_eq_getElem?_getD, List.getElem?_eq_getElem hj] <;> rfl] at this
        exact this
end
/-- min(xs, default=d) -/
def rMinD (K : PySem.W.Frag) : List V → List V → Hp → VK → Prop := fun vs zs H Q => ∃ (a : Addr) (ns : List Int) (d : V), vs = [V.ref a] ∧ zs = [d] ∧ SqL K H a (ns.map V.int) ∧ (ns = [] → Q d H) ∧ ∀ m, m ∈ ns → (∀ y, y ∈ ns → m ≤ y) → Q (.int m) H
theorem cr_minD {X : Cx} (hc : X.calm = true) : CallRK X (.builtin "min") ["default"] (rMinD X.K) := by
  intro pins s σ H xs zs us ws Q I r1 r2 h
  obtain ⟨a, ns, d, rfl, rfl, hs, q0, q1⟩ := h
  obtain ⟨its, rv, hl, _⟩ := I.list hs
  rw [Vals.ref1 r1]
  cases r2 with
  | cons rd t =>
    cases t
    exact minD_raw (I.ok.hd hc) hl.isList rv.ints (fun h' tk k e => ⟨d, H, I.kept k, rd, q0 e⟩) fun h' tk m t' k m1 m2 => ⟨.int m, H, I.kept k, ⟨_, rfl⟩, q1 m m1 m2⟩
end Zn

/-! matrices in the heap: lists or tuples of lists or tuples -/
namespace KM
open PySem PySem.Spec PyProof.Rows L2 Gd Zn
/-- a list (true) or a tuple (false) -/
def so (b : Bool) (xs : List V) : HO := if b then .lst xs else .tup xs
theorem so_sq {K : PySem.W.Frag} {H : Hp} {b : Bool} {p : Addr} {xs : List V} (h : H p = some (so b xs)) : SqV K H b p xs := by
  cases b
  · exact SqT.of h
  · exact SqL.of h
theorem so_any {K : PySem.W.Frag} {H : Hp} {b : Bool} {p : Addr} {xs : List V} (h : H p = some (so b xs)) : SqL K H p xs ∨ SqT K H p xs := by
  cases b
  · exact .inr (SqT.of h)
  · exact .inl (SqL.of h)
theorem so_kind {H : Hp} {b : Bool} {p : Addr} {xs : List V} (h : H p = some (so b xs)) : Pv H (.ref p) ∧ (inst "list" (kind H (.ref p)) || inst "tuple" (kind H (.ref p))) = true := by
  cases b
  · have e : kind H (.ref p) = .tup := by show kindO (H p) = _; rw [h]; rfl
    rw [Pv, e]
    exact ⟨by decide, by decide⟩
  · have e : kind H (.ref p) = .lst := by show kindO (H p) = _; rw [h]; rfl
    rw [Pv, e]
    exact ⟨by decide, by decide⟩
/-- what is walked -/
def ItV (K : PySem.W.Frag) (b : Bool) (a : Addr) : It := if b then Itl K a else Itt K a
def iSq (K : PySem.W.Frag) (te : TE) : TI := fun σ H R => te σ H fun x H1 => ∃ b a xs, x = V.ref a ∧ SqV K H1 b a xs ∧ R (ItV K b a) H1
theorem pi_sq {X : Cx} {tg e : Expr} {te : TE} (he : PE X e te) : PI X tg e (iSq X.K te) := by
  refine ⟨fun pins s σ H R I h => thn (he.run pins s σ H _ I h) fun v s1 ⟨x, H1, I1, r1, b, a, xs, ex, hq, q⟩ => ?_⟩
  subst ex
  obtain rfl : v = Value.ref a := r1
  have fp : ∀ c ∈ [s1.heap.objs.size], FpOk X pins H1 c := fun c hc => by
    obtain rfl : c = s1.heap.objs.size := by simpa using hc
    exact I1.fpOk (Nat.le_refl _) (I1.hok.fresh (Nat.le_refl _))
  cases b with
  | false =>
    obtain ⟨its, rv, pl, hz⟩ := I1.tuple hq
    exact wpAny_pyIter_tuple (show s1.heap.IsTuple a its.toArray from pl) ⟨_, [_], _, _, H1, rfl, I1.kept (t' := s1.toks) fun b o e => Heap.get?_push_of_some _ e, turn_tuple a _, ⟨_, Heap.get?_push_size _ rfl, rfl, rfl⟩, fp, q⟩
  | true =>
    obtain ⟨its, rv, pl, hz⟩ := I1.list hq
    exact wpAny_pyIter_list pl.isList ⟨_, [_], _, _, H1, rfl, I1.kept (t' := s1.toks) fun b o e => Heap.get?_push_of_some _ e, turn_list a _, ⟨_, Heap.get?_push_size _ rfl, rfl, rfl⟩, fp, q⟩
theorem walk_sq {K : PySem.W.Frag} {b : Bool} {a : Addr} {xs : List V} : Walk (ItV K b a) xs.length (fun H => SqV K H b a xs) (YAt xs) := by
  cases b
  · exact walk_tup
  · exact walk_list
/-- rows at their places -/
inductive RwAt (H : Hp) : Bs → List (List V) → Prop
  | nil : RwAt H [] []
  | cons {q : Bool × Addr} {xs : List V} {bs : Bs} {xss : List (List V)} : H q.2 = some (so q.1 xs) → RwAt H bs xss → RwAt H (q :: bs) (xs :: xss)
theorem RwAt.same {H H' : Hp} (s : Same H H') {bs : Bs} {xss : List (List V)} (h : RwAt H bs xss) : RwAt H' bs xss := by
  induction h with
  | nil => exact .nil
  | cons a _ ih => exact .cons (s _ _ a) ih
theorem RwAt.len {H : Hp} {bs : Bs} {xss : List (List V)} (h : RwAt H bs xss) : bs.length = xss.length := by
  induction h with
  | nil => rfl
  | cons _ _ ih => rw [List.length_cons, List.length_cons, ih]
theorem RwAt.rws {K : PySem.W.Frag} {H : Hp} {bs : Bs} {xss : List (List V)} (h : RwAt H bs xss) : Rws K H bs xss := by
  induction h with
  | nil => exact .nil
  | cons a _ ih => exact .cons (so_sq a) ih
theorem RwAt.get {H : Hp} {bs : Bs} {xss : List (List V)} (h : RwAt H bs xss) : ∀ {i : Nat} {x : V}, (bs.map fun q => V.ref q.2)[i]? = some x → ∃ b p xs, x = .ref p ∧ xss[i]? = some xs ∧ H p = some (so b xs) := by
  induction h with
  | nil => exact fun e => by simp at e
  | @cons q xs bs xss a _ ih =>
    intro i x e
    cases i with
    | zero =>
      cases e
      exact ⟨q.1, q.2, xs, rfl, rfl, a⟩
    | succ i => exact ih e
/-- a matrix -/
def MAt (H : Hp) (x : V) (xss : List (List V)) : Prop := ∃ b p bs, x = V.ref p ∧ H p = some (so b (bs.map fun q => V.ref q.2)) ∧ RwAt H bs xss
theorem MAt.same {H H' : Hp} {x : V} {xss : List (List V)} (s : Same H H') : MAt H x xss → MAt H' x xss
  | ⟨b, p, bs, e, h, r⟩ => ⟨b, p, bs, e, s _ _ h, r.same s⟩
theorem MAt.on {H H' : Hp} {x : V} {xss : List (List V)} (h : MAt H x xss) (s : Same H H') : MAt H' x xss := h.same s
/-- n rows of n items -/
def Sqr (n : Nat) (xss : List (List V)) : Prop := xss.length = n ∧ ∀ xs ∈ xss, xs.length = n
/-- lists at their places -/
inductive LsAt (H : Hp) : List Addr → List (List V) → Prop
  | nil : LsAt H [] []
  | cons {p : Addr} {xs : List V} {ps : List Addr} {xss : List (List V)} : H p = some (.lst xs) → LsAt H ps xss → LsAt H (p :: ps) (xs :: xss)
theorem LsAt.same {H H' : Hp} (s : Same H H') {ps : List Addr} {xss : List (List V)} (h : LsAt H ps xss) : LsAt H' ps xss := by
  induction h with
  | nil => exact .nil
  | cons a _ ih => exact .cons (s _ _ a) ih
theorem LsAt.on {H H' : Hp} {ps : List Addr} {xss : List (List V)} (h : LsAt H ps xss) (s : ∀ p ∈ ps, H' p = H p) : LsAt H' ps xss := by
  induction h with
  | nil => exact .nil
  | cons a _ ih => exact .cons ((s _ List.mem_cons_self).trans a) (ih fun p hp => s p (List.mem_cons_of_mem _ hp))
theorem LsAt.len {H : Hp} {ps : List Addr} {xss : List (List V)} (h : LsAt H ps xss) : ps.length = xss.length := by
  induction h with
  | nil => rfl
  | cons _ _ ih => rw [List.length_cons, List.length_cons, ih]
theorem LsAt.snoc {H : Hp} {ps : List Addr} {xss : List (List V)} {p : Addr} {xs : List V} (h : LsAt H ps xss) (hp : H p = some (.lst xs)) : LsAt H (ps ++ [p]) (xss ++ [xs]) := by
  induction h with
  | nil => exact .cons hp .nil
  | cons a _ ih => exact .cons a ih
theorem LsAt.rw {H : Hp} {ps : List Addr} {xss : List (List V)} (h : LsAt H ps xss) : RwAt H (ps.map fun p => (true, p)) xss := by
  induction h with
  | nil => exact .nil
  | cons a _ ih => exact .cons a ih
theorem LsAt.get {H : Hp} {ps : List Addr} {xss : List (List V)} (h : LsAt H ps xss) : ∀ {i : Nat} {p : Addr}, ps[i]? = some p → ∃ xs, xss[i]? = some xs ∧ H p = some (.lst xs) := by
  induction h with
  | nil => exact fun e => by simp at e
  | @cons p xs ps xss a _ ih =>
    intro i x e
    cases i with
    | zero =>
      cases e
      exact ⟨xs, rfl, a⟩
    | succ i => exact ih e
/-- a list of new lists, being made at D in what was H0 -/
structure Bld (H0 : Hp) (D : Addr) (xss : List (List V)) (H : Hp) : Prop where
  ex : ∃ ps, H D = some (.lst (ps.map V.ref)) ∧ LsAt H ps xss ∧ (∀ p ∈ ps, H0 p = none ∧ p ≠ D) ∧ ps.Nodup
  same : Same H0 H
  free : H0 D = none
theorem Bld.nil {H0 : Hp} {D : Addr} (h : H0 D = none) : Bld H0 D [] (upd H0 D (.lst [])) :=
  ⟨⟨[], upd_same, .nil, fun p hp => absurd hp List.not_mem_nil, List.nodup_nil⟩, fun b u hu => by rw [upd_ne (ne_of_none hu h)]; exact hu, h⟩
theorem Bld.ext {H0 H H' : Hp} {D : Addr} {xss : List (List V)} (b : Bld H0 D xss H) (s : Same H H') : Bld H0 D xss H' := by
  obtain ⟨ps, h1, h2, h3, h4⟩ := b.ex
  exact ⟨⟨ps, s _ _ h1, h2.same s, h3, h4⟩, b.same.trans s, b.free⟩
/-- one list more, new behind H -/
theorem Bld.add {H0 H H' : Hp} {D q : Addr} {xss : List (List V)} {xs : List V} (b : Bld H0 D xss H) (hq : H q = none) (s : Same H H') (h : H' q = some (.lst xs)) (hz : xss.length < sizeLine) :
    ∃ acc, H' D = some (.lst acc) ∧ acc.length < sizeLine ∧ Bld H0 D (xss ++ [xs]) (upd H' D (.lst (acc ++ [V.ref q]))) := by
  obtain ⟨ps, h1, h2, h3, h4⟩ := b.ex
  have qD : q ≠ D := fun e => by rw [e, h1] at hq; exact nomatch hq
  have hps : ∀ p ∈ ps, p ≠ D := fun p hp => (h3 p hp).2
  refine ⟨ps.map V.ref, s _ _ h1, by rw [List.length_map, h2.len]; exact hz, ⟨⟨ps ++ [q], by rw [List.map_append]; exact upd_same, ?_, fun p hp => ?_, ?_⟩, fun c u hu => ?_, b.free⟩⟩
  · exact ((h2.same s).on fun p hp => upd_ne (hps p hp)).snoc ((upd_ne qD).trans h)
  · rcases List.mem_append.mp hp with hp | hp
    · exact h3 p hp
    · obtain rfl : p = q := by simpa using hp
      refine ⟨?_, qD⟩
      cases e : H0 p with
      | none => rfl
      | some u => rw [b.same _ _ e] at hq; exact nomatch hq
  · refine List.nodup_append.mpr ⟨h4, by simp, fun a ha c hc e => ?_⟩
    obtain rfl : c = q := by simpa using hc
    subst e
    obtain ⟨i, hi⟩ := List.getElem?_of_mem ha
    obtain ⟨ys, _, hy⟩ := h2.get hi
    rw [hy] at hq
    exact nomatch hq
  · have : c ≠ D := fun e => by rw [e, b.free] at hu; exact nomatch hu
    rw [upd_ne this]
    exact s _ _ (b.same _ _ hu)
/-- a list of new lists -/
def NewM (H H' : Hp) (x : V) (xss : List (List V)) : Prop := ∃ D, x = V.ref D ∧ Bld H D xss H'
theorem NewM.same {H H' : Hp} {x : V} {xss : List (List V)} : NewM H H' x xss → Same H H'
  | ⟨_, _, b⟩ => b.same
theorem NewM.mat {H H' : Hp} {x : V} {xss : List (List V)} : NewM H H' x xss → MAt H' x xss
  | ⟨D, e, b⟩ => by
    obtain ⟨ps, h1, h2, _, _⟩ := b.ex
    exact ⟨true, D, ps.map fun p => (true, p), e, by rw [List.map_map]; exact h1, h2.rw⟩
/-- values into a new list -/
structure Vls (H0 : Hp) (D : Addr) (ys : List V) (H : Hp) : Prop where
  at_ : H D = some (.lst ys)
  same : Same H0 H
  free : H0 D = none
theorem Vls.nil {H0 : Hp} {D : Addr} (h : H0 D = none) : Vls H0 D [] (upd H0 D (.lst [])) := ⟨upd_same, fun b u hu => by rw [upd_ne (ne_of_none hu h)]; exact hu, h⟩
theorem Vls.ext {H0 H H' : Hp} {D : Addr} {ys : List V} (b : Vls H0 D ys H) (s : Same H H') : Vls H0 D ys H' := ⟨s _ _ b.at_, b.same.trans s, b.free⟩
theorem Vls.add {H0 H : Hp} {D : Addr} {ys : List V} {y : V} (b : Vls H0 D ys H) (hz : ys.length < sizeLine) : ∃ acc, H D = some (.lst acc) ∧ acc.length < sizeLine ∧ Vls H0 D (ys ++ [y]) (upd H D (.lst (acc ++ [y]))) :=
  ⟨ys, b.at_, hz, upd_same, fun c u hu => by
    have : c ≠ D := fun e => by rw [e, b.free] at hu; exact nomatch hu
    rw [upd_ne this]
    exact b.same _ _ hu, b.free⟩
theorem upd_new {H : Hp} {q : Addr} {o : HO} (h : H q = none) : Same H (upd H q o) := fun b u hu => by
  rw [upd_ne (ne_of_none hu h)]
  exact hu
theorem take_succ {α : Type} {l : List α} {i : Nat} {x : α} (h : l[i]? = some x) : l.take (i + 1) = l.take i ++ [x] := by
  rw [List.take_add_one, h]
  rfl

/-- a walk in a comprehension, whatever is asked of each turn -/
theorem out_it {J : It} {n : Nat} {G : Hp → Prop} {Y : Nat → Hp → V → Hp → Prop} (w : Walk J n G Y) {B : V → Hp → (Hp → Prop) → Prop} {H0 : Hp} {Qd : Hp → Prop} (Pv : Nat → Hp → Prop) (h0 : Pv 0 H0) (hG : ∀ i H, i ≤ n → Pv i H → G H)
    (hs : ∀ i x H H', i < n → Pv i H → Y i H x H' → B x H' (Pv (i + 1))) (hd : ∀ H, Pv n H → Qd H) :
    ∃ W : Nat → Nat → Hp → Prop, (∃ m, W 0 m H0) ∧ ∀ i m H, W i m H → (J.stop i H ∧ Qd H) ∨ (J.go i H ∧ ∃ Nx : Hp → Prop, (∀ H', Nx H' → ∃ m', m' < m ∧ W (i + 1) m' H') ∧ ∀ x H', J.yld i H x H' → B x H' Nx) := by
  refine ⟨fun i m H => m + i = n ∧ Pv i H, ⟨n, rfl, h0⟩, ?_⟩
  rintro i m H ⟨e, p⟩
  have q := hG i H (by omega) p
  by_cases hlt : (i < n)
  · exact .inr ⟨w.goes i H hlt q, Pv (i + 1), fun H' p' => ⟨m - 1, by omega, by omega, p'⟩, fun x H' y => hs i x H H' hlt p (w.yields i H x H' hlt q y)⟩
  · obtain rfl : i = n := by omega
    exact .inl ⟨w.stops H q, hd H p⟩
theorem pi_zipPK {K : PySem.W.Frag} {X : Cx} (h : X.K = K) {tg e e2 : Expr} {ta : TA} {p pos : Pos} (hg : Gl X "zip") (hm : X.mg "zip" = none) (ha : PA X [e, e2] ta)
    (hs : starEach [e, e2] X.env = (false, eval e X.env) :: starEach [e2] X.env := by rfl) (hpl : (backTo pos (starEach [e2] X.env)).any (·.1) = false := by rfl) : PI X tg (.Call (.Name "zip" p) [e, e2] [] pos) (iZipP K ta) := by
  subst h
  exact pi_zipP hg hm ha hs hpl
/-! ### rules within a comprehension, the written part named -/
def rLen (K : PySem.W.Frag) : List V → Hp → VK → Prop := fun xs H Q => ∃ p ys, xs = [V.ref p] ∧ (SqL K H p ys ∨ SqT K H p ys) ∧ Q (.int ys.length) H
def rListOf (K : PySem.W.Frag) : List V → Hp → VK → Prop := fun xs H Q => ∃ p ys, xs = [V.ref p] ∧ (SqL K H p ys ∨ SqT K H p ys) ∧ ∀ l, H l = none → Q (.ref l) (upd H l (.lst ys))
def rTupOf (K : PySem.W.Frag) : List V → Hp → VK → Prop := fun xs H Q => ∃ p ys, xs = [V.ref p] ∧ ((SqL K H p ys ∧ ∀ l, H l = none → Q (.ref l) (upd H l (.tup ys))) ∨ (SqT K H p ys ∧ Q (.ref p) H))
section
variable {K : PySem.W.Frag} {X : Cx} (h : X.K = K)
include h
theorem call_lenK : CallR X (.builtin "len") (rLen K) := by subst h; exact call_len_seq
theorem call_listK : CallR X (.type "list") (rListOf K) := by subst h; exact call_list_of
theorem call_tupleK : CallR X (.type "tuple") (rTupOf K) := by subst h; exact call_tuple_of
theorem cr_minK (hc : X.calm = true) : CallR X (.builtin "min") (rMin K) := by subst h; exact cr_min hc
theorem ix_listK : IxR X (rIxL K) := by subst h; exact ix_list
theorem pg_tupK {es : List Expr} {k : Nat} {pos : Pos} {t : TGs} {n : Nat} (hc : X.calm = true) (hs : PGs X es t) (hn : (assignEach es X.env).length = n := by rfl) (hst : (assignEach es X.env).findIdx? (·.1) = none := by rfl) : PG X (.Tuple es k pos) (gTup K n t) := by
  subst h
  exact pg_tup hc hs hn hst
theorem pi_listK {tg l : Expr} {tl : TE} (hl : PE X l tl) : PI X tg l (iList K tl) := by subst h; exact pi_list hl
theorem pi_sqK {tg l : Expr} {tl : TE} (hl : PE X l tl) : PI X tg l (iSq K tl) := by subst h; exact pi_sq hl
end
end KM

/-! matrices as data: compared and written -/
namespace KM
open PySem PySem.Spec PyProof.Rows L2 Gd Zn
/-- None or an integer that is not too long -/
def Itm (v : V) : Prop := v = .non ∨ ∃ i : Int, v = .int i ∧ i.natAbs < 2 ^ 200
def dI : V → PyData
  | .int i => .int i
  | _ => .none
def dR (xs : List V) : PyData := .list (xs.map dI)
def dM (xss : List (List V)) : PyData := .list (xss.map dR)
theorem dp_row {K : PySem.W.Frag} {H : Hp} : ∀ {xs : List V}, (∀ v ∈ xs, Itm v) → DpAll K H xs (xs.map dI)
  | [], _ => .nil
  | v :: xs, h => .cons (by
      rcases h v List.mem_cons_self with rfl | ⟨i, rfl, _⟩
      · exact .non
      · exact .int i) (dp_row fun u hu => h u (List.mem_cons_of_mem _ hu))
theorem da_row {K : PySem.W.Frag} {H : Hp} : ∀ {xs : List V}, (∀ v ∈ xs, Itm v) → DaL K H xs (xs.map dI)
  | [], _ => .nil
  | v :: xs, h => .cons (by
      rcases h v List.mem_cons_self with rfl | ⟨i, rfl, _⟩
      · exact .non
      · exact .int i) (da_row fun u hu => h u (List.mem_cons_of_mem _ hu))
def All (p : V → Prop) (xss : List (List V)) : Prop := ∀ xs ∈ xss, ∀ v ∈ xs, p v
theorem All.mono {p q : V → Prop} {xss : List (List V)} (h : All p xss) (k : ∀ v, p v → q v) : All q xss := fun xs hx v hv => k v (h xs hx v hv)
theorem dp_rows {K : PySem.W.Frag} {H : Hp} {ps : List Addr} {xss : List (List V)} (h : LsAt H ps xss) (c : All Itm xss) : DpAll K H (ps.map V.ref) (xss.map dR) := by
  induction h with
  | nil => exact .nil
  | @cons p xs ps xss a _ ih => exact .cons (.lst (SqL.of a) (dp_row fun v hv => c _ List.mem_cons_self v hv)) (ih fun xs hx => c xs (List.mem_cons_of_mem _ hx))
theorem da_rows {K : PySem.W.Frag} {H : Hp} {ps : List Addr} {xss : List (List V)} (h : LsAt H ps xss) (c : All Itm xss) : DaL K H (ps.map V.ref) (xss.map dR) := by
  induction h with
  | nil => exact .nil
  | @cons p xs ps xss a _ ih => exact .cons (.lst a (da_row fun v hv => c _ List.mem_cons_self v hv)) (ih fun xs hx => c xs (List.mem_cons_of_mem _ hx))
/-- as lists of lists -/
def LMat (H : Hp) (x : V) (xss : List (List V)) : Prop := ∃ D ps, x = V.ref D ∧ H D = some (.lst (ps.map V.ref)) ∧ LsAt H ps xss
theorem LMat.same {H H' : Hp} {x : V} {xss : List (List V)} (s : Same H H') : LMat H x xss → LMat H' x xss
  | ⟨D, ps, e, h, r⟩ => ⟨D, ps, e, s _ _ h, r.same s⟩
theorem LMat.mat {H : Hp} {x : V} {xss : List (List V)} : LMat H x xss → MAt H x xss
  | ⟨D, ps, e, h, r⟩ => ⟨true, D, ps.map fun p => (true, p), e, by rw [List.map_map]; exact h, r.rw⟩
theorem NewM.lm {H H' : Hp} {x : V} {xss : List (List V)} : NewM H H' x xss → LMat H' x xss
  | ⟨D, e, b⟩ => by
    obtain ⟨ps, h1, h2, _, _⟩ := b.ex
    exact ⟨D, ps, e, h1, h2⟩
theorem LMat.dp {K : PySem.W.Frag} {H : Hp} {x : V} {xss : List (List V)} (c : All Itm xss) : LMat H x xss → Dp K H x (dM xss)
  | ⟨D, ps, e, h, r⟩ => by
    subst e
    exact .lst (SqL.of h) (dp_rows r c)
theorem LMat.da {K : PySem.W.Frag} {H : Hp} {x : V} {xss : List (List V)} (c : All Itm xss) : LMat H x xss → Da K H x (dM xss)
  | ⟨D, ps, e, h, r⟩ => by
    subst e
    exact .lst h (da_rows r c)
theorem dI_lay (v : V) : (dI v).canLay0 = true ∧ (dI v).depth = 0 := by cases v <;> exact ⟨by first | rfl | simp [dI, PyData.canLay0], rfl⟩
theorem shaped_M (xss : List (List V)) : SeqAt.shaped (dM xss) = true := by
  have r1 : ∀ xs : List V, PyData.canLayAll0 (xs.map dI) = true ∧ PyData.depthAll (xs.map dI) = 0 := by
    intro xs
    induction xs with
    | nil => exact ⟨by simp [PyData.canLayAll0], rfl⟩
    | cons v xs ih =>
      obtain ⟨a, b⟩ := dI_lay v
      refine ⟨by simp [PyData.canLayAll0, a, ih.1], ?_⟩
      show max (dI v).depth (PyData.depthAll (xs.map dI)) = 0
      rw [b, ih.2]
      rfl
  have r2 : PyData.canLayAll0 (xss.map dR) = true ∧ PyData.depthAll (xss.map dR) ≤ 1 := by
    induction xss with
    | nil => exact ⟨by simp [PyData.canLayAll0], Nat.zero_le _⟩
    | cons xs xss ih =>
      obtain ⟨a, b⟩ := r1 xs
      refine ⟨by simp [PyData.canLayAll0, ih.1, dR, PyData.canLay0, a], ?_⟩
      show max (PyData.depthAll (xs.map dI) + 1) (PyData.depthAll (xss.map dR)) ≤ 1
      rw [b]
      omega
  unfold SeqAt.shaped
  have e1 : (dM xss).canLay0 = true := by simp [dM, PyData.canLay0, r2.1]
  have e2 : (dM xss).depth ≤ 64 := by
    show PyData.depthAll (xss.map dR) + 1 ≤ 64
    omega
  rw [e1, decide_eq_true e2]
  rfl
theorem log_small {i : Int} (h : i.natAbs < 2 ^ 200) : i.natAbs.log2 < 200 := by
  rcases Nat.eq_zero_or_pos i.natAbs with e | e
  · rw [e]; decide
  · exact (Nat.log2_lt (by omega)).mpr h
theorem row_ok : ∀ {xs : List V}, (∀ v ∈ xs, Itm v) → OkL (xs.map dI) ∧ widL (xs.map dI) ≤ 205 * xs.length ∧ PyData.depthAll (xs.map dI) = 0
  | [], _ => ⟨trivial, Nat.zero_le _, rfl⟩
  | v :: xs, h => by
    obtain ⟨a, b, c⟩ := row_ok (xs := xs) fun u hu => h u (List.mem_cons_of_mem _ hu)
    rcases h v List.mem_cons_self with rfl | ⟨i, rfl, hi⟩
    · refine ⟨⟨trivial, a⟩, ?_, ?_⟩
      · show 4 + 2 + widL (xs.map dI) ≤ _
        rw [List.length_cons]
        omega
      · show max 0 (PyData.depthAll (xs.map dI)) = 0
        rw [c]
        rfl
    · have := log_small hi
      refine ⟨⟨by show i.natAbs.log2 < 1920; omega, a⟩, ?_, ?_⟩
      · show i.natAbs.log2 + 3 + 2 + widL (xs.map dI) ≤ _
        rw [List.length_cons]
        omega
      · show max 0 (PyData.depthAll (xs.map dI)) = 0
        rw [c]
        rfl
theorem mat_ok {n : Nat} (hn : n ≤ 12) : ∀ {xss : List (List V)}, (∀ xs ∈ xss, xs.length ≤ n) → All Itm xss → OkL (xss.map dR) ∧ widL (xss.map dR) ≤ 3000 * xss.length ∧ PyData.depthAll (xss.map dR) ≤ 1
  | [], _, _ => ⟨trivial, Nat.zero_le _, Nat.zero_le _⟩
  | xs :: xss, l, h => by
    obtain ⟨a, b, c⟩ := mat_ok hn (xss := xss) (fun u hu => l u (List.mem_cons_of_mem _ hu)) fun u hu => h u (List.mem_cons_of_mem _ hu)
    obtain ⟨a1, b1, c1⟩ := row_ok (h xs List.mem_cons_self)
    have l1 := l xs List.mem_cons_self
    refine ⟨⟨a1, a⟩, ?_, ?_⟩
    · show widL (xs.map dI) + 2 + 2 + widL (xss.map dR) ≤ _
      rw [List.length_cons]
      omega
    · show max (PyData.depthAll (xs.map dI) + 1) (PyData.depthAll (xss.map dR)) ≤ 1
      rw [c1]
      omega
/-- written -/
theorem M_ok {n : Nat} {xss : List (List V)} (hn : n ≤ 12) (sq : Sqr n xss) (h : All Itm xss) : Ok1 (dM xss) ∧ wid (dM xss) ≤ 40000 ∧ (dM xss).depth ≤ 2 := by
  obtain ⟨a, b, c⟩ := mat_ok hn (fun xs hx => by rw [sq.2 xs hx]; exact Nat.le_refl _) h
  refine ⟨a, ?_, ?_⟩
  · show widL (xss.map dR) + 2 ≤ _
    rw [sq.1] at b
    omega
  · show PyData.depthAll (xss.map dR) + 1 ≤ 2
    omega
end KM

namespace Gd
open PySem PySem.Spec PyProof.Rows L2
/-! ### small data: written, and compared -/
mutual
theorem dp_of_da {K : PySem.W.Frag} {H : Hp} : ∀ {v : V} {d : PyData}, Da K H v d → d.canLay0 = true → Dp K H v d
  | _, _, .non, _ => .non
  | _, _, .bl b, _ => .bl b
  | _, _, .int i, _ => .int i
  | _, _, .str x, _ => .str x
  | _, _, .lst h r, c => .lst (SqL.of h) (dps_of_da r c)
  | _, _, .tup h r, c => .tup h (dps_of_da r c)
  | _, _, .dct h r, c => nomatch (show false = true from c)
theorem dps_of_da {K : PySem.W.Frag} {H : Hp} : ∀ {vs : List V} {ds : List PyData}, DaL K H vs ds → PyData.canLayAll0 ds = true → DpAll K H vs ds
  | _, _, .nil, _ => .nil
  | _, _, .cons h r, c => by
    have c' := Bool.and_eq_true_iff.mp (show (PyData.canLay0 _ && PyData.canLayAll0 _) = true from c)
    exact .cons (dp_of_da h c'.1) (dps_of_da r c'.2)
end
/-- written within n signs, at most k deep, no dict in it -/
structure Sml (n k : Nat) (d : PyData) : Prop where
  ok : Ok1 d
  lay : d.canLay0 = true
  wd : wid d + 2 ≤ n
  dp : d.depth ≤ k
section
variable {n k m : Nat} {d : PyData} {ds : List PyData}
theorem Sml.up {n' k' : Nat} (h : Sml n k d) (hn : n ≤ n') (hk : k ≤ k') : Sml n' k' d := ⟨h.ok, h.lay, Nat.le_trans h.wd hn, Nat.le_trans h.dp hk⟩
theorem Sml.shp (h : Sml n k d) (hk : k ≤ 64) : SeqAt.shaped d = true := by
  unfold SeqAt.shaped
  rw [h.lay, decide_eq_true (Nat.le_trans h.dp hk)]
  rfl
/-- the parts of a list or a tuple -/
theorem sml_parts : ∀ {ds : List PyData}, (∀ d ∈ ds, Sml n k d) → OkL ds ∧ PyData.canLayAll0 ds = true ∧ widL ds ≤ ds.length * n ∧ PyData.depthAll ds ≤ k
  | [], _ => ⟨trivial, rfl, Nat.zero_le _, Nat.zero_le _⟩
  | d :: ds, h => by
    have s := h d (.head _)
    obtain ⟨q1, q2, q3, q4⟩ := sml_parts (ds := ds) fun x hx => h x (.tail _ hx)
    have w := s.wd
    have p := s.dp
    refine ⟨⟨s.ok, q1⟩, ?_, ?_, ?_⟩
    · show (d.canLay0 && PyData.canLayAll0 ds) = true
      rw [s.lay, q2]
      rfl
    · rw [List.length_cons, Nat.succ_mul]
      show wid d + 2 + widL ds ≤ _
      omega
    · exact Nat.max_le.mpr ⟨p, q4⟩
theorem sml_lst (h : ∀ d ∈ ds, Sml n k d) (hm : ds.length * n + 5 ≤ m) : Sml m (k + 1) (.list ds) := by
  obtain ⟨q1, q2, q3, q4⟩ := sml_parts h
  exact ⟨q1, q2, by show widL ds + 2 + 2 ≤ m; omega, Nat.succ_le_succ q4⟩
theorem sml_tup (h : ∀ d ∈ ds, Sml n k d) (hm : ds.length * n + 5 ≤ m) : Sml m (k + 1) (.tuple ds) := by
  obtain ⟨q1, q2, q3, q4⟩ := sml_parts h
  exact ⟨q1, q2, by show widL ds + 3 + 2 ≤ m; omega, Nat.succ_le_succ q4⟩
theorem sml_one {x : Str} (h : Tx n x) : Sml (10 * n + 4) 0 (.str x) := by
  have := h.len
  refine ⟨h.big, ?_, ?_, Nat.le_refl _⟩
  · show PyData.strOk x = true
    unfold PyData.strOk
    rw [Array.all_eq_true']
    intro c hc
    have := h.asc c (by simpa using hc)
    exact decide_eq_true (by omega)
  · show 10 * x.length + 2 + 2 ≤ _
    omega
theorem sml_num {i : Int} (h : i.natAbs.log2 < 100) : Sml 105 0 (.int i) := ⟨by show i.natAbs.log2 < 1920; omega, rfl, by show i.natAbs.log2 + 3 + 2 ≤ 105; omega, Nat.le_refl _⟩
theorem sml_nix : Sml 6 0 .none := ⟨trivial, rfl, Nat.le_refl _, Nat.le_refl _⟩
theorem sml_tf (b : Bool) : Sml 7 0 (.bool b) := ⟨trivial, rfl, Nat.le_refl _, Nat.le_refl _⟩
end
end Gd

namespace K2
open PySem L2 Gd
/-! ### a number's signs -/
def isDg (c : Nat) : Bool := decide (48 ≤ c) && decide (c ≤ 57)
/-- what stands behind the sign -/
def body : List Nat → List Nat
  | [] => []
  | c :: r => if c = 45 then r else c :: r
def dOk (d : List Nat) : Bool := decide (1 ≤ d.length) && decide (d.length ≤ 30) && d.all isDg
def nOk (l : List Nat) : Bool := dOk (body l) && (!decide ((body l).head? = some 48) || decide (l = [48]))
def stp (a : Int) (c : Nat) : Int := a * 10 + ((c : Int) - 48)
def foldV (d : List Nat) : Int := d.foldl stp 0
def valL (l : List Nat) : Int := if l.head? = some 45 then -foldV (body l) else foldV (body l)
/-- the number that a value's signs say -/
def numV : V → Option Int
  | .str x => if nOk x.cps.toList = true then some (valL x.cps.toList) else none
  | _ => none
theorem isDg_iff {c : Nat} : isDg c = true ↔ 48 ≤ c ∧ c ≤ 57 := by
  unfold isDg
  rw [Bool.and_eq_true, decide_eq_true_eq, decide_eq_true_eq]
theorem fold_nat : ∀ (d : List Nat) (a : Nat), (∀ c ∈ d, 48 ≤ c ∧ c ≤ 57) → d.foldl stp (a : Int) = ((d.foldl (fun a c => a * 10 + (c - 48)) a : Nat) : Int)
  | [], _, _ => rfl
  | c :: d, a, h => by
    have hc := h c List.mem_cons_self
    have e : stp (a : Int) c = ((a * 10 + (c - 48) : Nat) : Int) := by unfold stp; omega
    rw [List.foldl_cons, List.foldl_cons, e]
    exact fold_nat d _ fun x hx => h x (List.mem_cons_of_mem _ hx)
theorem dOk_iff {d : List Nat} : dOk d = true ↔ 1 ≤ d.length ∧ d.length ≤ 30 ∧ ∀ c ∈ d, 48 ≤ c ∧ c ≤ 57 := by
  unfold dOk
  rw [Bool.and_eq_true, Bool.and_eq_true, decide_eq_true_eq, decide_eq_true_eq, List.all_eq_true]
  constructor
  · exact fun ⟨⟨a, b⟩, c⟩ => ⟨a, b, fun x hx => isDg_iff.mp (c x hx)⟩
  · exact fun ⟨a, b, c⟩ => ⟨⟨a, b⟩, fun x hx => isDg_iff.mpr (c x hx)⟩
theorem foldV_nat {d : List Nat} (h : ∀ c ∈ d, 48 ≤ c ∧ c ≤ 57) : foldV d = ((NumText.digitsVal d : Nat) : Int) := by
  have := fold_nat d 0 h
  exact this
/-- int(text) -/
theorem int_num {x : Str} (h : nOk x.cps.toList = true) : intText? x = some (valL x.cps.toList) ∧ x.length ≤ 31 := by
  unfold nOk at h
  rw [Bool.and_eq_true, dOk_iff] at h
  obtain ⟨⟨h1, h2, h3⟩, _⟩ := h
  have hl : x.length = x.cps.toList.length := (Array.length_toList).symm
  cases e : x.cps.toList with
  | nil => rw [e] at h1; exact absurd h1 (by decide)
  | cons c r =>
    rw [e] at h1 h2 h3
    by_cases hc : c = 45
    · subst hc
      have eb : body (45 :: r) = r := by
        show (if (45 : Nat) = 45 then r else 45 :: r) = r
        rw [if_pos rfl]
      rw [eb] at h1 h2 h3
      have l2 : x.length ≤ 31 := by
        rw [hl, e, List.length_cons]
        omega
      refine ⟨?_, l2⟩
      rw [PySem.intText_neg e (fun c hc => h3 c hc) (by intro z; rw [z] at h1; exact absurd h1 (by decide)) (by omega)]
      show _ = some (if (some 45 : Option Nat) = some 45 then -foldV (body (45 :: r)) else _)
      rw [if_pos rfl, eb, foldV_nat h3]
    · have eb : body (c :: r) = c :: r := by
        show (if c = 45 then r else c :: r) = c :: r
        rw [if_neg hc]
      rw [eb] at h1 h2 h3
      have l2 : x.length ≤ 31 := by
        rw [hl, e]
        omega
      refine ⟨?_, l2⟩
      have h3' : NumText.AllDigits x.cps.toList := by
        rw [e]
        exact h3
      rw [PySem.intText_digits h3' (by rw [e]; exact List.cons_ne_nil _ _) (by omega), e]
      show _ = some (if (some c : Option Nat) = some 45 then _ else foldV (body (c :: r)))
      rw [if_neg (by intro z; exact hc (Option.some.inj z)), eb, foldV_nat h3]
/-- a number of at most thirty digits -/
theorem foldV_bound : ∀ (d : List Nat) (a : Int), (∀ c ∈ d, 48 ≤ c ∧ c ≤ 57) → 0 ≤ a → 0 ≤ d.foldl stp a ∧ d.foldl stp a < (a + 1) * 10 ^ d.length
  | [], a, _, h => ⟨h, by show a < (a + 1) * 1; omega⟩
  | c :: d, a, hd, h => by
    have hc := hd c List.mem_cons_self
    have h0 : 0 ≤ stp a c := by unfold stp; omega
    obtain ⟨i1, i2⟩ := foldV_bound d (stp a c) (fun x hx => hd x (List.mem_cons_of_mem _ hx)) h0
    refine ⟨i1, Int.lt_of_lt_of_le i2 ?_⟩
    have e : (a + 1) * 10 ^ (d.length + 1) = ((a + 1) * 10) * 10 ^ d.length := by
      rw [Int.pow_succ, Int.mul_comm (10 ^ d.length) 10, Int.mul_assoc]
    show _ ≤ (a + 1) * 10 ^ (d.length + 1)
    rw [e]
    exact Int.mul_le_mul_of_nonneg_right (by unfold stp; omega) (Int.pow_nonneg (by decide))
theorem valL_bound {l : List Nat} (h : nOk l = true) : -(10 ^ 30) < valL l ∧ valL l < 10 ^ 30 := by
  unfold nOk at h
  rw [Bool.and_eq_true, dOk_iff] at h
  obtain ⟨⟨h1, h2, h3⟩, _⟩ := h
  obtain ⟨b1, b2⟩ := foldV_bound (body l) 0 h3 (Int.le_refl 0)
  have b3 : foldV (body l) < 10 ^ (body l).length := by
    have := b2
    rw [Int.zero_add, Int.one_mul] at this
    exact this
  have b4 : (10 : Int) ^ (body l).length ≤ 10 ^ 30 := by
    have := Nat.pow_le_pow_right (n := 10) (by decide) h2
    have q : ((10 ^ (body l).length : Nat) : Int) ≤ ((10 ^ 30 : Nat) : Int) := Int.ofNat_le.mpr this
    rw [Int.natCast_pow, Int.natCast_pow] at q
    exact q
  have b5 : 0 ≤ foldV (body l) := b1
  have b6 : foldV (body l) < 10 ^ 30 := Int.lt_of_lt_of_le b3 b4
  unfold valL
  split <;> constructor <;> omega
/-- text.removeprefix("-") -/
theorem prefix_body (x : Str) : (Txt.removeprefix x "-").cps.toList = body x.cps.toList := by
  rw [StrLaws.removeprefix_eq]
  have e1 : (("-" : String) : Str).length = 1 := by decide +kernel
  have e2 : (("-" : String) : Str).cps = #[45] := by decide +kernel
  have hs : Builtin.Str.subAt x "-" 0 = decide (x.cps.toList.head? = some 45) := by
    unfold Builtin.Str.subAt
    rw [e1, e2, Bool.eq_iff_iff, beq_iff_eq, decide_eq_true_eq]
    have hx : x.cps.extract 0 (0 + 1) = (x.cps.toList.take 1).toArray := by
      apply Array.toList_inj.mp
      simp
    rw [hx]
    cases x.cps.toList with
    | nil => simp
    | cons c r => simp
  rw [e1, hs]
  have hl : x.length = x.cps.toList.length := (Array.length_toList).symm
  cases e : x.cps.toList with
  | nil =>
    rw [if_neg (by simp)]
    rw [e]
    rfl
  | cons c r =>
    rw [e, List.length_cons] at hl
    by_cases hc : c = 45
    · subst hc
      rw [if_pos (by simp; omega)]
      have eb : body (45 :: r) = r := by
        show (if (45 : Nat) = 45 then r else 45 :: r) = r
        rw [if_pos rfl]
      rw [eb, hl]
      simp
    · rw [if_neg (by simp [hc]), e]
      show c :: r = if c = 45 then r else c :: r
      rw [if_neg hc]
theorem body_len : ∀ l : List Nat, (body l).length ≤ l.length
  | [] => Nat.le_refl _
  | c :: r => by
    show (if c = 45 then r else c :: r).length ≤ _
    split
    · exact Nat.le_succ _
    · exact Nat.le_refl _
theorem body_mem {c : Nat} : ∀ {l : List Nat}, c ∈ body l → c ∈ l
  | [], h => h
  | a :: r, h => by
    have h' : c ∈ (if a = 45 then r else a :: r) := h
    by_cases e : a = 45
    · rw [if_pos e] at h'
      exact List.mem_cons_of_mem _ h'
    · rw [if_neg e] at h'
      exact h'
end K2

namespace KC
open PySem L2 Gd Fw KM
def top (i : Nat) : Stmt := PySem.Challenge.pw_formatrepair_k26_whole_cheapest_scripts.main.body.getD i (.Pass ⟨0, 0, 0, 0⟩)
/-- what the walk asks of the names that no def of the text stands behind -/
structure Txt (mg : Str → Option Value) (base : Heap) : Prop where
  sys : SysIn base
  g_MOST_LETTERS : ∃ u, mg "MOST_LETTERS" = some u ∧ RelV (.int 6) u
  g_HIGHEST_PRICE : ∃ u, mg "HIGHEST_PRICE" = some u ∧ RelV (.int 9) u
  z_enumerate : mg "enumerate" = none
  z_reversed : mg "reversed" = none
  b_heappush : mg "heappush" = some (.builtin "_heapq.heappush")
  b_heappop : mg "heappop" = some (.builtin "_heapq.heappop")
  z_isinstance : mg "isinstance" = none
  z_int : mg "int" = none
  z_bool : mg "bool" = none
  z_str : mg "str" = none
  z_list : mg "list" = none
  z_tuple : mg "tuple" = none
  z_dict : mg "dict" = none
  z_set : mg "set" = none
  z_len : mg "len" = none
  z_all : mg "all" = none
  z_max : mg "max" = none
  z_min : mg "min" = none
  z_sum : mg "sum" = none
  z_range : mg "range" = none
  z_repr : mg "repr" = none
  z_sorted : mg "sorted" = none
def spIsInt : Sp := fun vs H Q _ => ∃ v, vs = [v] ∧ Pv H v ∧ Q (.bl (isInt v)) H
def spIsIndex : Sp := fun vs H Q _ => ∃ i n : Int, vs = [.int i, .int n] ∧ 0 ≤ i ∧ i < n ∧ Q (.bl true) H
def Short (v : V) : Prop := ∀ x, v = .str x → Tx 100000 x
def isLet : V → Bool
  | .str x => decide (x.length = 1) && x.cps.toList.all low
  | _ => false
def isTxt : V → Bool
  | .str x => x.cps.toList.all low
  | _ => false
def spAsk (f : V → Bool) : Sp := fun vs H Q _ => ∃ v, vs = [v] ∧ Pv H v ∧ Short v ∧ ∀ H', Same H H' → Q (.bl (f v)) H'
def isSeq (k : Gd.Kind) : Bool := inst "list" k || inst "tuple" k
def spIsList : Sp := fun vs H Q _ => ∃ v, vs = [v] ∧ Pv H v ∧ ∀ H', Same H H' → Q (.bl (isSeq (kind H v))) H'
def spCheap : Sp := fun vs H Q _ => ∃ a b : Co, vs = [oV a, oV b] ∧ Q (.bl (cheap a b)) H
def spCsum : Sp := fun vs H Q _ => ∃ a b : Co, vs = [oV a, oV b] ∧ Q (oV (csum a b)) H
section
variable {P : Program} {w : World} {K : PySem.W.Frag} {mg : Str → Option Value} {base : Heap}
abbrev s_law_cell : Stmt := top 45
theorem sc_law_cell : FnScope ["_law_script", "_law_k"] ["_law_script", "_law_k"] (defScope s_law_cell) := ⟨rfl, rfl, rfl, by decide +kernel, rfl, by decide +kernel, by decide +kernel⟩
theorem ok_cell {f : Addr} {fd : FuncData} (F : Fun K "_law_cell" "_law_cell" s_law_cell f fd) (T : Txt mg base) : FnG P w K mg base CX0 1 f fd ["_law_script", "_law_k"] (spScr K) := by
  refine okG F sc_law_cell (fun vs H Q E h => ?_) (fun cdv A outer s H vs Q E hc hr h => ?_)
  · obtain ⟨p, ns, k, rfl, _⟩ := h
    rfl
  obtain ⟨p, ns, k, rfl, hs, k0, k1, q⟩ := h
  refine ⟨_, (pss_cons (ps_if (pt_cmpR op_lt (pv 1) (pe_callB call_len_seq (by rfl) T.z_len (by decide +kernel) (pa_cons (pv 0) pa_nil)) (nomark _))
  (pss_one (ps_ret (pe_ix ix_list (pv 0) (pv 1) (fun _ _ => rfl)))) pss_nil)
 (pss_one (ps_ret (pe_op op_add (pe_op op_mul pe_int (pv 1)) pe_int)))), ?_⟩
  refine ⟨_, rfl, _, rfl, p, _, rfl, .inl hs, _, _, rfl, rfl, _, rfl, ?_⟩
  refine ite2 (fun c => ?_) (fun c => ?_)
  · have c1 := of_decide_eq_true c
    rw [List.length_map] at c1
    obtain ⟨z, hz⟩ := at_script k0 c1
    exact ⟨_, rfl, _, rfl, p, _, _, _, rfl, rfl, hs, hz, q z⟩
  · exact ⟨_, rfl, _, _, rfl, rfl, .inl ⟨by decide, by decide⟩, _, _, rfl, rfl, q _⟩
abbrev s_law_box : Stmt := top 46
theorem sc_law_box : FnScope ["_law_cell_here"] ["_law_cell_here"] (defScope s_law_box) := ⟨rfl, rfl, rfl, by decide +kernel, rfl, by decide +kernel, by decide +kernel⟩
theorem ok_box {f : Addr} {fd : FuncData} (F : Fun K "_law_box" "_law_box" s_law_box f fd) (T : Txt mg base) : FnG P w K mg base CX0 1 f fd ["_law_cell_here"] spBox := by
  refine okG F sc_law_box (fun vs H Q E h => ?_) (fun cdv A outer s H vs Q E hc hr h => ?_)
  · obtain ⟨z, rfl, _⟩ := h
    rfl
  obtain ⟨z, rfl, q⟩ := h
  refine ⟨_, (pss_one (ps_ret (pe_lst (pa_cons (pe_callB (call_max2 rfl) (by rfl) T.z_max (by decide +kernel) (pa_cons pe_int (pa_cons (pe_op op_sub (pv 0) (pe_op op_pow pe_int pe_int)) pa_nil))) (pa_cons (pe_op op_mod (pv 0) pe_int) (pa_cons pe_int pa_nil)))))), ?_⟩
  refine ⟨_, rfl, _, _, rfl, rfl, ⟨by decide, by decide, by decide⟩, _, _, rfl, rfl, _, _, rfl, _, rfl, _, _, rfl, rfl, (by show (0 : Int) < 2147483629; decide), ?_⟩
  refine ⟨(by show 3 ≤ sizeLine; decide), fun p hp => q p _ hp ⟨_, _, _, upd_same, ?_⟩⟩
  have := mod_pos (i := z) (j := 2147483629) (by decide)
  omega
abbrev s_law_take : Stmt := top 47
theorem sc_law_take : FnScope ["_law_box_here", "_law_size", "_law_digit", "_law_mixed"] ["_law_box_here", "_law_size"] (defScope s_law_take) := ⟨rfl, rfl, rfl, by decide +kernel, rfl, by decide +kernel, by decide +kernel⟩
theorem ok_take {f : Addr} {fd : FuncData} (F : Fun K "_law_take" "_law_take" s_law_take f fd) : FnG P w K mg base CX0 1 f fd ["_law_box_here", "_law_size"] spTake := by
  refine okG F sc_law_take (fun vs H Q E h => ?_) (fun cdv A outer s H vs Q E hc hr h => ?_)
  · obtain ⟨p, n, rfl, _⟩ := h
    rfl
  obtain ⟨p, n, rfl, ⟨a, b, c, hp, b0, b1⟩, n0, n1, k⟩ := h
  refine ⟨_, (pss_cons (ps_if (pt_cmpR op_gt (pe_ix ix_list (pv 0) pe_int (fun _ _ => rfl)) pe_int (nomark _))
  (pss_cons (ps_set (i := 2) sc_law_take.nd rfl (Or.inl rfl) (pe_op op_mod (pe_ix ix_list (pv 0) pe_int (fun _ _ => rfl)) (pv 1)))
 (pss_cons (ps_asg (pe_op op_fdivW (pe_ix ix_list (pv 0) pe_int (fun _ _ => rfl)) (pv 1)) (pg_sub (pv 0) pe_int set_list))
 (pss_one (ps_ret (pv 2))))) pss_nil)
 (pss_cons (ps_asg (pe_op op_add (pe_ix ix_list (pv 0) pe_int (fun _ _ => rfl)) pe_int) (pg_sub (pv 0) pe_int set_list))
 (pss_cons (ps_set (i := 3) sc_law_take.nd rfl (Or.inl rfl) (pe_op op_mod (pe_op op_add (pe_op op_add (pe_op op_mul (pe_ix ix_list (pv 0) pe_int (fun _ _ => rfl)) pe_int) (pe_op op_mul pe_int (pe_ix ix_list (pv 0) pe_int (fun _ _ => rfl)))) pe_int) pe_int))
 (pss_cons (ps_asg (pe_op op_mod (pe_op op_add (pe_op op_pow (pv 3) pe_int) (pe_op op_mul pe_int (pe_ix ix_list (pv 0) pe_int (fun _ _ => rfl)))) pe_int) (pg_sub (pv 0) pe_int set_list))
 (pss_one (ps_ret (pe_op op_mod (pe_op op_fdivW (pe_ix ix_list (pv 0) pe_int (fun _ _ => rfl)) pe_int) (pv 1)))))))), ?_⟩
  refine ⟨_, rfl, p, _, _, _, rfl, rfl, SqL.of hp, atI_nat (j := 0) rfl, _, _, rfl, rfl, _, rfl, ?_⟩
  refine ite2 (fun ha => ?_) (fun ha => ?_)
  · refine ⟨_, rfl, p, _, _, _, rfl, rfl, SqL.of hp, atI_nat (j := 0) rfl, _, rfl, _, _, rfl, rfl, n0, ?_⟩
    refine ⟨_, rfl, p, _, _, _, rfl, rfl, SqL.of hp, atI_nat (j := 0) rfl, _, rfl, _, _, rfl, rfl, wide_div (b := 20) n0 (by omega) (by decide) (by decide), ?_⟩
    refine ⟨_, rfl, p, _, _, 0, rfl, rfl, hp, rfl, _, rfl, ?_⟩
    exact k _ _ (mod_pos n0).1 (mod_pos n0).2 (turned_upd b0 b1)
  · refine ⟨_, rfl, p, _, _, _, rfl, rfl, SqL.of hp, atI_nat (j := 2) rfl, _, _, rfl, rfl, ?_⟩
    refine ⟨_, rfl, p, _, _, 2, rfl, rfl, hp, rfl, ?_⟩
    have h1 : ∀ {z : V}, (upd H p (.lst ([V.int a, .int b, .int c].set 2 z))) p = some (.lst [.int a, .int b, z]) := upd_same
    refine ⟨_, rfl, p, _, _, _, rfl, rfl, SqL.of h1, atI_nat (j := 1) rfl, _, _, rfl, rfl, .inr ⟨by decide, by decide⟩, ?_⟩
    refine ⟨_, rfl, p, _, _, _, rfl, rfl, SqL.of h1, atI_nat (j := 2) rfl, _, _, rfl, rfl, .inl ⟨by decide, by decide⟩, _, _, rfl, rfl, _, _, rfl, rfl, _, _, rfl, rfl, (by show (0 : Int) < 2147483647; decide), ?_⟩
    refine ⟨_, rfl, _, _, rfl, rfl, ⟨by decide, by decide, ?_⟩, ?_⟩
    · have m0 := mod_pos (i := b * 48271 + 69621 * (c + 1) + 163) (j := 2147483647) (by decide)
      show ((b * 48271 + 69621 * (c + 1) + 163) % 2147483647).natAbs < 2 ^ 64
      omega
    refine ⟨_, rfl, p, _, _, _, rfl, rfl, SqL.of h1, atI_nat (j := 2) rfl, _, _, rfl, rfl, .inl ⟨by decide, by decide⟩, _, _, rfl, rfl, _, _, rfl, rfl, (by show (0 : Int) < 2147483647; decide), ?_⟩
    refine ⟨_, rfl, p, _, _, 1, rfl, rfl, h1, rfl, ?_⟩
    refine ⟨_, rfl, p, _, _, _, rfl, rfl, SqL.of upd_same, atI_nat (j := 1) rfl, _, _, rfl, rfl, wide_div (b := 5) (by decide) (by decide) (by decide) (by decide), _, rfl, _, _, rfl, rfl, n0, ?_⟩
    refine k _ _ (mod_pos n0).1 (mod_pos n0).2 ?_
    rw [upd_upd]
    exact turned_upd (mod_pos (by decide)).1 (mod_pos (by decide)).2
abbrev sis_integer : Stmt := top 13
theorem scis_integer : FnScope ["value"] ["value"] (defScope sis_integer) := ⟨rfl, rfl, rfl, by decide +kernel, rfl, by decide +kernel, by decide +kernel⟩
theorem ok_isint {f : Addr} {fd : FuncData} (F : Fun K "is_integer" "is_integer" sis_integer f fd) (T : Txt mg base) : FnG P w K mg base CX0 1 f fd ["value"] spIsInt := by
  refine okG F scis_integer (fun vs H Q E h => ?_) (fun cdv A outer s H vs Q E hc hr h => ?_)
  · obtain ⟨v, rfl, _⟩ := h
    rfl
  obtain ⟨v, rfl, hv, q⟩ := h
  refine ⟨_, (pss_one (ps_ret (pe_and (pe_callB call_isk (by rfl) T.z_isinstance (by decide +kernel) (pa_cons (pv 0) (pa_cons (pe_bltn (v := .ty "int") (by rfl) T.z_int (by decide +kernel) rfl) pa_nil))) (pe_one (pe_not (pe_callB call_isk (by rfl) T.z_isinstance (by decide +kernel) (pa_cons (pv 0) (pa_cons (pe_bltn (v := .ty "bool") (by rfl) T.z_bool (by decide +kernel) rfl) pa_nil)))))))), ?_⟩
  refine ⟨_, rfl, v, _, rfl, .inl rfl, hv, _, rfl, ?_⟩
  refine ite2 (fun c => ?_) (fun c => ?_)
  · refine ⟨_, rfl, v, _, rfl, .inr (.inr (.inl rfl)), hv, _, rfl, ?_⟩
    have e := isInt_kind H v
    rw [c, Bool.true_and] at e
    show Q (.bl (!inst "bool" (kind H v))) H
    rw [e]
    exact q
  · have e := isInt_kind H v
    rw [Bool.eq_false_iff.mpr c, Bool.false_and] at e
    show Q (.bl false) H
    rw [e]
    exact q
abbrev sis_index : Stmt := top 16
theorem scis_index : FnScope ["value", "size"] ["value", "size"] (defScope sis_index) := ⟨rfl, rfl, rfl, by decide +kernel, rfl, by decide +kernel, by decide +kernel⟩
theorem ok_isindex {f f1 : Addr} {fd fd1 : FuncData} (F : Fun K "is_index" "is_index" sis_index f fd) (T : Txt mg base)
    (D_is_integer : Df P w K mg base CX0 1 "is_integer" f1 fd1 ["value"] spIsInt) : FnG P w K mg base CX0 2 f fd ["value", "size"] spIsIndex := by
  refine okG F scis_index (fun vs H Q E h => ?_) (fun cdv A outer s H vs Q E hc hr h => ?_)
  · obtain ⟨i, n, rfl, _⟩ := h
    rfl
  obtain ⟨i, n, rfl, h0, h1, q⟩ := h
  refine ⟨_, (pss_one (ps_ret (pe_and (pe_d D_is_integer hc (hr.mono (by omega)) (by rfl) (fun _ => passN) (pa_cons (pv 0) pa_nil)) (pe_one (pe_chain op_le op_lt pe_int (pv 0) (pv 1)))))), ?_⟩
  refine ⟨_, rfl, .int i, rfl, (fun z => nomatch z), _, rfl, iteT ?_⟩
  refine ⟨_, rfl, _, _, rfl, rfl, _, rfl, ?_⟩
  rw [decide_eq_true h0]
  refine iteT ⟨_, rfl, _, _, rfl, rfl, ?_⟩
  show Q (.bl (decide (i < n))) H
  rw [decide_eq_true h1]
  exact q
theorem notStr {H : Hp} {v : V} (c : inst "str" (kind H v) = false) : isLet v = false ∧ isTxt v = false := by
  rw [isStr_kind] at c
  cases v with
  | str x => exact nomatch c
  | _ => exact ⟨rfl, rfl⟩
theorem isStrOf {H : Hp} {v : V} (c : inst "str" (kind H v) = true) : ∃ x, v = .str x := by
  rw [isStr_kind] at c
  exact isStr_iff c
abbrev sis_letter : Stmt := top 14
theorem scis_letter : FnScope ["value"] ["value"] (defScope sis_letter) := ⟨rfl, rfl, rfl, by decide +kernel, rfl, by decide +kernel, by decide +kernel⟩
theorem ok_isletter {f : Addr} {fd : FuncData} (F : Fun K "is_letter" "is_letter" sis_letter f fd) (T : Txt mg base) : FnG P w K mg base CX0 1 f fd ["value"] (spAsk isLet) := by
  refine okG F scis_letter (fun vs H Q E h => ?_) (fun cdv A outer s H vs Q E hc hr h => ?_)
  · obtain ⟨v, rfl, _⟩ := h
    rfl
  obtain ⟨v, rfl, hv, hs, q⟩ := h
  have q := q H (Same.refl H)
  refine ⟨_, (pss_one (ps_ret (pe_and (pe_callB call_isk (by rfl) T.z_isinstance (by decide +kernel) (pa_cons (pv 0) (pa_cons (pe_bltn (v := .ty "str") (by rfl) T.z_str (by decide +kernel) rfl) pa_nil))) (pe_and (pe_cmpR op_eq (pe_callB call_len_str (by rfl) T.z_len (by decide +kernel) (pa_cons (pv 0) pa_nil)) pe_int (nomark _)) (pe_one (pe_chain op_le_str op_le_str pe_str (pv 0) pe_str)))))), ?_⟩
  refine ⟨_, rfl, v, _, rfl, .inr (.inl rfl), hv, _, rfl, ?_⟩
  refine iteB (fun c => ?_) (fun c => ?_)
  · obtain ⟨x, rfl⟩ := isStrOf c
    have tx := hs x rfl
    have hl := tx.len
    have z16 := sizeLine_eq
    refine ⟨_, rfl, x, rfl, by omega, rfl, _, rfl, ?_⟩
    have e1 : decide (V.int (x.length : Int) = V.int 1) = decide (x.length = 1) := decide_eq_decide.mpr ⟨fun z => by injection z with z; omega, fun z => by rw [z]; rfl⟩
    rw [e1]
    have qq : Q (.bl (decide (x.length = 1) && x.cps.toList.all low)) H := q
    refine iteB (fun c1 => ?_) (fun c1 => ?_)
    · have h1 : x.cps.toList.length = 1 := by rw [← len_list]; exact of_decide_eq_true c1
      obtain ⟨u, hu⟩ := List.length_eq_one_iff.mp h1
      have ex : x = ⟨#[u]⟩ := str_ext hu
      subst ex
      refine ⟨_, rfl, _, _, rfl, rfl, _, rfl, ?_⟩
      rw [low_fst]
      have ql : Q (.bl (low u)) H := by
        have : (decide (({ cps := #[u] } : Str).length = 1) && ({ cps := #[u] } : Str).cps.toList.all low) = low u := by
          show (true && (low u && true)) = low u
          simp
        rw [this] at qq
        exact qq
      refine iteB (fun g1 => ?_) (fun g1 => ?_)
      · refine ⟨_, _, rfl, rfl, ?_⟩
        rw [low_snd]
        have : low u = decide (u ≤ 122) := by unfold low; rw [g1, Bool.true_and]
        rw [← this]
        exact ql
      · have : low u = false := by unfold low; rw [g1, Bool.false_and]
        rw [← this]
        exact ql
    · rw [c1, Bool.false_and] at qq
      exact qq
  · have := (notStr c).1
    rw [this] at q
    exact q
abbrev sis_text : Stmt := top 15
theorem scis_text : FnScope ["value", "sign"] ["value"] (defScope sis_text) := ⟨rfl, rfl, rfl, by decide +kernel, rfl, by decide +kernel, by decide +kernel⟩
theorem ok_istext {f : Addr} {fd : FuncData} (F : Fun K "is_text" "is_text" sis_text f fd) (T : Txt mg base) : FnG P w K mg base CX0 1 f fd ["value"] (spAsk isTxt) := by
  refine okG F scis_text (fun vs H Q E h => ?_) (fun cdv A outer s H vs Q E hc hr h => ?_)
  · obtain ⟨v, rfl, _⟩ := h
    rfl
  obtain ⟨v, rfl, hv, hs, q⟩ := h
  refine ⟨_, (pss_one (ps_ret (pe_and (pe_callB call_isk (by rfl) T.z_isinstance (by decide +kernel) (pa_cons (pv 0) (pa_cons (pe_bltn (v := .ty "str") (by rfl) T.z_str (by decide +kernel) rfl) pa_nil))) (pe_one (pe_callB (cr_all rfl) (by rfl) T.z_all (by decide +kernel) (pa_cons (pe_lc (own := [("sign", 1)]) (g := gName 1) rfl scis_text.nd (pi_str (pv 0)) (blkOk_by (N := ["value", "sign"]) (sc := defScope sis_text) (by decide +kernel)) (fun _ _ _ _ _ => pg_name (i := 1) scis_text.nd rfl (Or.inl rfl)) (fun _ _ _ _ _ => pts_nil) (fun _ _ _ _ _ => (pe_chain op_le_str op_le_str pe_str (pv 1) pe_str))) pa_nil)))))), ?_⟩
  refine ⟨_, rfl, v, _, rfl, .inr (.inl rfl), hv, _, rfl, ?_⟩
  refine iteB (fun c => ?_) (fun c => ?_)
  · obtain ⟨x, rfl⟩ := isStrOf c
    have tx := hs x rfl
    have hl := tx.len
    have z16 := sizeLine_eq
    refine ⟨_, rfl, x, rfl, fun D hD => ?_⟩
    refine lc_text (fun c => .bl (low c)) (fun _ => true) (by omega) (fun c acc Q' _ k => k) (fun c acc Q' hc _ k => ?_) ?_
    · refine ⟨_, rfl, _, _, rfl, rfl, _, rfl, ?_⟩
      rw [low_fst]
      refine iteB (fun g1 => ?_) (fun g1 => ?_)
      · refine ⟨_, _, rfl, rfl, ?_⟩
        rw [low_snd]
        have : low c = decide (c ≤ 122) := by unfold low; rw [g1, Bool.true_and]
        rw [← this]
        exact k
      · have : low c = false := by unfold low; rw [g1, Bool.false_and]
        rw [← this]
        exact k
    · rw [List.filter_eq_self.mpr (fun _ _ => rfl)]
      refine ⟨D, x.cps.toList |>.map low, rfl, ?_, ?_⟩
      · rw [List.map_map]
        exact SqL.of upd_same
      · have ea : (x.cps.toList.map low).all id = x.cps.toList.all low := by
          rw [List.all_map]
          rfl
        rw [ea]
        exact q _ fun b o e => by rw [upd_ne (ne_of_none e hD)]; exact e
  · have r := q H (Same.refl H)
    have := (notStr c).2
    rw [this] at r
    exact r
abbrev sis_cheaper : Stmt := top 19
theorem scis_cheaper : FnScope ["cost", "other"] ["cost", "other"] (defScope sis_cheaper) := ⟨rfl, rfl, rfl, by decide +kernel, rfl, by decide +kernel, by decide +kernel⟩
theorem ok_cheaper {f : Addr} {fd : FuncData} (F : Fun K "is_cheaper" "is_cheaper" sis_cheaper f fd) : FnG P w K mg base CX0 1 f fd ["cost", "other"] spCheap := by
  refine okG F scis_cheaper (fun vs H Q E h => ?_) (fun cdv A outer s H vs Q E hc hr h => ?_)
  · obtain ⟨a, b, rfl, _⟩ := h
    rfl
  obtain ⟨a, b, rfl, q⟩ := h
  refine ⟨_, (pss_one (ps_ret (pe_and (pe_cmpR op_notN (pv 0) pe_non (nomark _)) (pe_one (pe_or (pe_cmpR op_isN (pv 1) pe_non (nomark _)) (pe_one (pe_cmpR op_lt (pv 0) (pv 1) (nomark _)))))))), ?_⟩
  refine ⟨_, rfl, rfl, _, rfl, ?_⟩
  rw [oV_non]
  match a, b, q with
  | none, b, q => exact iteF q
  | some i, none, q =>
    refine iteT ?_
    refine ⟨_, rfl, rfl, _, rfl, iteT q⟩
  | some i, some j, q =>
    refine iteT ?_
    refine ⟨_, rfl, rfl, _, rfl, iteF ?_⟩
    exact ⟨_, rfl, _, rfl, _, _, rfl, rfl, q⟩
abbrev scost_sum : Stmt := top 20
theorem sccost_sum : FnScope ["cost", "other"] ["cost", "other"] (defScope scost_sum) := ⟨rfl, rfl, rfl, by decide +kernel, rfl, by decide +kernel, by decide +kernel⟩
theorem ok_csum {f : Addr} {fd : FuncData} (F : Fun K "cost_sum" "cost_sum" scost_sum f fd) : FnG P w K mg base CX0 1 f fd ["cost", "other"] spCsum := by
  refine okG F sccost_sum (fun vs H Q E h => ?_) (fun cdv A outer s H vs Q E hc hr h => ?_)
  · obtain ⟨a, b, rfl, _⟩ := h
    rfl
  obtain ⟨a, b, rfl, q⟩ := h
  refine ⟨_, (pss_cons (ps_if (PW.pt (pw_or (pt_cmpR op_isN (pv 0) pe_non (nomark _)) (pw_or1 (pt_cmpR op_isN (pv 1) pe_non (nomark _)))))
  (pss_one (ps_ret pe_non)) pss_nil)
 (pss_one (ps_ret (pe_op op_add (pv 0) (pv 1))))), ?_⟩
  match a, b, q with
  | none, b, q => exact ⟨_, rfl, rfl, _, rfl, iteT q⟩
  | some i, none, q =>
    refine ⟨_, rfl, rfl, _, rfl, iteF ?_⟩
    exact ⟨_, rfl, rfl, _, rfl, iteT q⟩
  | some i, some j, q =>
    refine ⟨_, rfl, rfl, _, rfl, iteF ?_⟩
    refine ⟨_, rfl, rfl, _, rfl, iteF ?_⟩
    exact ⟨_, rfl, _, rfl, _, _, rfl, rfl, q⟩
end
end KC

namespace KC
open PySem L2 Gd Fw KM
/-- what stands where a symbol may stand -/
inductive SymV (K : PySem.W.Frag) (H : Hp) : V → Prop
  | str (x : Str) : Tx 100 x → SymV K H (.str x)
  | non : SymV K H .non
  | int (i : Int) : SymV K H (.int i)
  | lst (a : Addr) (x : Str) : H a = some (.lst [.str x]) → Tx 100 x → SymV K H (.ref a)
theorem SymV.same {K : PySem.W.Frag} {H H' : Hp} (e : Same H H') {v : V} (h : SymV K H v) : SymV K H' v := by
  cases h with
  | str x t => exact .str x t
  | non => exact .non
  | int i => exact .int i
  | lst a x h t => exact .lst a x (e _ _ h) t
def isSym (cs : List Nat) : V → Bool
  | .str x => decide (x ∈ symL cs)
  | _ => false
theorem isSym_ref (cs : List Nat) (a : Addr) : isSym cs (.ref a) = false := rfl
def spSym (K : PySem.W.Frag) : Sp := fun vs H Q _ => ∃ v cs, vs = [v, .str (alph cs)] ∧ Alp cs ∧ SymV K H v ∧ ∀ H', Same H H' → Q (.bl (isSym cs v)) H'
/-- a pair of a script, or what stands in its place -/
inductive PairV (K : PySem.W.Frag) (H : Hp) (cs : List Nat) : V → Bool → Prop
  | no (v : V) : Pv H v → inst "tuple" (kind H v) = false → PairV K H cs v false
  | len (a : Addr) (xs : List V) : H a = some (.tup xs) → xs.length ≠ 2 → xs.length ≤ 3 → PairV K H cs (.ref a) false
  | two (a : Addr) (u w : V) : H a = some (.tup [u, w]) → SymV K H u → SymV K H w → PairV K H cs (.ref a) (isSym cs u && isSym cs w && !(decide (u = .str Str.empty) && decide (w = .str Str.empty)))
theorem PairV.same {K : PySem.W.Frag} {H H' : Hp} (e : Same H H') {cs : List Nat} {v : V} {b : Bool} (h : PairV K H cs v b) : PairV K H' cs v b := by
  cases h with
  | no _ p t => exact .no v (p.same e) (by rw [kind_same e p]; exact t)
  | len a xs h n l => exact .len a xs (e _ _ h) n l
  | two a u w h s t => exact .two a u w (e _ _ h) (s.same e) (t.same e)
def spPair (K : PySem.W.Frag) : Sp := fun vs H Q _ => ∃ v cs b, vs = [v, .str (alph cs)] ∧ Alp cs ∧ PairV K H cs v b ∧ ∀ H', Same H H' → Q (.bl b) H'
def spAlph : Sp := fun vs H Q _ => ∃ L : Str, vs = [.str L] ∧ Lets L ∧ ∀ H', Same H H' → Q (.bl true) H'
/-- a price: none, or at most nine -/
def Pr (a : Co) : Prop := ∀ i, a = some i → 0 ≤ i ∧ i ≤ 9
def spPrice : Sp := fun vs H Q _ => ∃ a : Co, vs = [oV a] ∧ Pr a ∧ Q (.bl true) H
def spEdit : Sp := fun vs H Q _ => ∃ a x y cs, vs = [.ref a, .str (alph cs)] ∧ Alp cs ∧ H a = some (.tup [.str x, .str y]) ∧ x ∈ symL cs ∧ y ∈ symL cs ∧ x ≠ y ∧ ∀ H', Same H H' → Q (.bl true) H'
/-- a price table over the symbols -/
def Tab (D : List Str) (kvs : List (List Key × V)) : Prop := kvs.length ≤ 1000 ∧ ∀ k v, (k, v) ∈ kvs → ∃ x ∈ D, ∃ y ∈ D, x ≠ y ∧ k = kk x y ∧ ∃ a : Co, v = oV a ∧ Pr a
def spTable : Sp := fun vs H Q _ => ∃ d cs kvs, vs = [.ref d, .str (alph cs)] ∧ Alp cs ∧ H d = some (.dT kvs) ∧ Tab (symL cs) kvs ∧ ∀ H', Same H H' → Q (.bl true) H'
section
variable {P : Program} {w : World} {K : PySem.W.Frag} {mg : Str → Option Value} {base : Heap}
theorem pv_str {H : Hp} {x : Str} : Pv H (.str x) := fun z => nomatch z
theorem pv_non {H : Hp} : Pv H .non := fun z => nomatch z
theorem pv_int {H : Hp} {i : Int} : Pv H (.int i) := fun z => nomatch z
theorem pv_lst {H : Hp} {a : Addr} {xs : List V} (h : H a = some (.lst xs)) : Pv H (.ref a) := by
  show kindO (H a) ≠ .odd
  rw [h]
  intro z
  exact nomatch z
theorem pv_tup {H : Hp} {a : Addr} {xs : List V} (h : H a = some (.tup xs)) : Pv H (.ref a) := by
  show kindO (H a) ≠ .odd
  rw [h]
  intro z
  exact nomatch z
theorem SymV.pv {H : Hp} {v : V} (h : SymV K H v) : Pv H v := by
  cases h with
  | str x t => exact pv_str
  | non => exact pv_non
  | int i => exact pv_int
  | lst a x h _ => exact pv_lst h
theorem SymV.sh {H : Hp} {v : V} (h : SymV K H v) : Short v := by
  intro y e
  cases h with
  | str x t => cases e; exact t.mono (by decide)
  | non => exact nomatch e
  | int i => exact nomatch e
  | lst a x h _ => exact nomatch e
theorem SymV.dp {H : Hp} {v : V} (h : SymV K H v) : ∃ d, Dp K H v d ∧ SeqAt.shaped d = true ∧ PyData.eqv d (.str (Str.ofString "")) = decide (v = .str Str.empty) := by
  cases h with
  | str x t =>
    refine ⟨_, .str x, (sml_one t).shp (by decide), ?_⟩
    show (x == Str.ofString "") = _
    by_cases e : x = Str.ofString ""
    · subst e
      exact (beq_self_eq_true _).trans (decide_eq_true rfl).symm
    · have e1 : (x == Str.ofString "") = false := beq_eq_false_iff_ne.mpr e
      rw [e1]
      exact (decide_eq_false fun z => e (by injection z)).symm
  | non => exact ⟨_, .non, rfl, (decide_eq_false fun z => nomatch z).symm⟩
  | int i => exact ⟨_, .int i, rfl, (decide_eq_false fun z => nomatch z).symm⟩
  | lst a x h t => exact ⟨_, .lst (SqL.of h) (.cons (.str x) .nil), (sml_lst (m := 2000) (ds := [.str x]) (fun d hd => by cases List.mem_singleton.mp hd; exact sml_one t) (by show 1 * (10 * 100 + 4) + 5 ≤ 2000; decide)).shp (by decide), (decide_eq_false fun z => nomatch z).symm⟩
abbrev sis_symbol : Stmt := top 26
theorem scis_symbol : FnScope ["value", "alphabet"] ["value", "alphabet"] (defScope sis_symbol) := ⟨rfl, rfl, rfl, by decide +kernel, rfl, by decide +kernel, by decide +kernel⟩
theorem ok_symbol {f f1 : Addr} {fd fd1 : FuncData} (F : Fun K "is_symbol" "is_symbol" sis_symbol f fd)
    (D_is_letter : Df P w K mg base CX0 1 "is_letter" f1 fd1 ["value"] (spAsk isLet)) : FnG P w K mg base CX0 2 f fd ["value", "alphabet"] (spSym K) := by
  refine okG F scis_symbol (fun vs H Q E h => ?_) (fun cdv A outer s H vs Q E hc hr h => ?_)
  · obtain ⟨v, cs, rfl, _⟩ := h
    rfl
  obtain ⟨v, cs, rfl, al, hv, q⟩ := h
  refine ⟨_, (pss_one (ps_ret (pe_or (pe_cmpR (op_eqD hr.units) (pv 0) pe_str (nomark _)) (pe_one (pe_and (pe_d D_is_letter hc (hr.mono (by omega)) (by rfl) (fun _ => passN) (pa_cons (pv 0) pa_nil)) (pe_one (pe_cmpR op_in_sign (pv 0) (pv 1) (by rfl)))))))), ?_⟩
  obtain ⟨d, hd, sd, eq⟩ := hv.dp
  refine ⟨_, rfl, d, _, hd, .str _, sd, (by decide +kernel), _, rfl, ?_⟩
  rw [eq]
  refine iteB (fun c => ?_) (fun c => ?_)
  · have e := of_decide_eq_true c
    subst e
    have q := q H (Same.refl H)
    have : isSym cs (.str Str.empty) = true := decide_eq_true (mem_sym (cs := cs).mpr (.inl rfl))
    rw [this] at q
    exact q
  · have ne := of_decide_eq_false c
    refine ⟨_, rfl, v, rfl, hv.pv, hv.sh, fun H1 s1 => ?_⟩
    have q := q H1 s1
    refine ⟨_, rfl, ?_⟩
    refine iteB (fun c1 => ?_) (fun c1 => ?_)
    · obtain ⟨x, rfl⟩ : ∃ x, v = .str x := by
        cases v with
        | str x => exact ⟨x, rfl⟩
        | _ => exact nomatch c1
      have c1 : (decide (x.length = 1) && x.cps.toList.all low) = true := c1
      rw [Bool.and_eq_true] at c1
      have h1 : x.cps.toList.length = 1 := by rw [← len_list]; exact of_decide_eq_true c1.1
      obtain ⟨u, hu⟩ := List.length_eq_one_iff.mp h1
      have ex : x = sg u := str_ext hu
      subst ex
      refine ⟨_, rfl, _, rfl, u, _, rfl, rfl, ?_⟩
      have : isSym cs (.str (sg u)) = decide (u ∈ (alph cs).cps.toList) := by
        show decide (sg u ∈ symL cs) = _
        refine decide_eq_decide.mpr ⟨fun h => ?_, fun h => mem_sym.mpr (.inr ⟨u, h, rfl⟩)⟩
        rcases mem_sym.mp h with e | ⟨c, hc, e⟩
        · exact absurd e.symm (empty_sg u)
        · rw [sg_inj e]
          exact hc
      rw [this] at q
      exact q
    · have : isSym cs v = false := by
        cases v with
        | str x =>
          refine decide_eq_false fun h => ?_
          rcases mem_sym.mp h with e | ⟨u, hu, e⟩
          · exact ne (by rw [e])
          · subst e
            have : isLet (.str (sg u)) = true := by
              show (decide ((sg u).length = 1) && [u].all low) = true
              have := al.low u hu
              simp [this]
              rfl
            rw [this] at c1
            exact nomatch c1
        | _ => rfl
      rw [this] at q
      exact q
abbrev sis_price : Stmt := top 27
theorem scis_price : FnScope ["value"] ["value"] (defScope sis_price) := ⟨rfl, rfl, rfl, by decide +kernel, rfl, by decide +kernel, by decide +kernel⟩
theorem ok_price {f f1 : Addr} {fd fd1 : FuncData} (F : Fun K "is_price" "is_price" sis_price f fd) (T : Txt mg base)
    (D_is_index : Df P w K mg base CX0 2 "is_index" f1 fd1 ["value", "size"] spIsIndex) : FnG P w K mg base CX0 3 f fd ["value"] spPrice := by
  refine okG F scis_price (fun vs H Q E h => ?_) (fun cdv A outer s H vs Q E hc hr h => ?_)
  · obtain ⟨a, rfl, _⟩ := h
    rfl
  obtain ⟨a, rfl, pr, q⟩ := h
  refine ⟨_, (pss_one (ps_ret (pe_or (pe_cmpR op_isN (pv 0) pe_non (nomark _)) (pe_one (pe_d D_is_index hc (hr.mono (by omega)) (by rfl) (fun _ => passN) (pa_cons (pv 0) (pa_cons (pe_op op_add (pe_k (by rfl) T.g_HIGHEST_PRICE) pe_int) pa_nil))))))), ?_⟩
  refine ⟨_, rfl, rfl, _, rfl, ?_⟩
  rw [oV_non]
  match a, pr with
  | none, _ => exact iteT q
  | some i, pr =>
    have := pr i rfl
    refine iteF ?_
    refine ⟨_, rfl, _, _, rfl, rfl, i, 10, rfl, this.1, by omega, q⟩
theorem tup_is {H : Hp} {a : Addr} {xs : List V} (h : H a = some (.tup xs)) : inst "tuple" (kind H (.ref a)) = true := by
  show inst "tuple" (kindO (H a)) = true
  rw [h]
  show inst "tuple" Gd.Kind.tup = true
  decide +kernel
theorem isSym_iff {cs : List Nat} {v : V} (h : isSym cs v = true) : ∃ x, v = .str x ∧ x ∈ symL cs := by
  cases v with
  | str x => exact ⟨x, rfl, of_decide_eq_true h⟩
  | _ => exact nomatch h
theorem len0 (x : Str) : decide (V.str x = V.str Str.empty) = decide (x.length = 0) := by
  refine decide_eq_decide.mpr ⟨fun h => by injection h with h; rw [h]; rfl, fun h => ?_⟩
  have : x = Str.empty := str_ext (List.eq_nil_of_length_eq_zero (by rw [← len_list]; exact h))
  rw [this]
abbrev sis_pair : Stmt := top 30
theorem scis_pair : FnScope ["value", "alphabet", "source", "target"] ["value", "alphabet"] (defScope sis_pair) := ⟨rfl, rfl, rfl, by decide +kernel, rfl, by decide +kernel, by decide +kernel⟩
theorem ok_pair {f f1 : Addr} {fd fd1 : FuncData} (F : Fun K "is_pair" "is_pair" sis_pair f fd) (T : Txt mg base)
    (D_is_symbol : Df P w K mg base CX0 2 "is_symbol" f1 fd1 ["value", "alphabet"] (spSym K)) : FnG P w K mg base CX0 3 f fd ["value", "alphabet"] (spPair K) := by
  refine okG F scis_pair (fun vs H Q E h => ?_) (fun cdv A outer s H vs Q E hc hr h => ?_)
  · obtain ⟨v, cs, b, rfl, _⟩ := h
    rfl
  obtain ⟨v, cs, b, rfl, al, hv, q⟩ := h
  refine ⟨_, (pss_cons (ps_if (PW.pt (pw_or (pt_not (pt_val (pe_callB call_isk (by rfl) T.z_isinstance (by decide +kernel) (pa_cons (pv 0) (pa_cons (pe_bltn (v := .ty "tuple") (by rfl) T.z_tuple (by decide +kernel) rfl) pa_nil))))) (pw_or1 (pt_cmpR op_ne (pe_callB call_len_seq (by rfl) T.z_len (by decide +kernel) (pa_cons (pv 0) pa_nil)) pe_int (nomark _)))))
  (pss_one (ps_ret pe_bl)) pss_nil)
 (pss_cons (ps_asg (pv 0) (pg_tup (by rfl) (pgs_cons (pg_name (i := 2) scis_pair.nd rfl (Or.inl rfl)) (pgs_cons (pg_name (i := 3) scis_pair.nd rfl (Or.inl rfl)) pgs_nil))))
 (pss_one (ps_ret (pe_and (pe_d D_is_symbol hc (hr.mono (by omega)) (by rfl) (fun _ => passN) (pa_cons (pv 2) (pa_cons (pv 1) pa_nil))) (pe_and (pe_d D_is_symbol hc (hr.mono (by omega)) (by rfl) (fun _ => passN) (pa_cons (pv 3) (pa_cons (pv 1) pa_nil))) (pe_one (pe_cmpR op_gt (pe_op op_add (pe_callB call_len_str (by rfl) T.z_len (by decide +kernel) (pa_cons (pv 2) pa_nil)) (pe_callB call_len_str (by rfl) T.z_len (by decide +kernel) (pa_cons (pv 3) pa_nil))) pe_int (nomark _))))))))), ?_⟩
  cases hv with
  | no _ hp ht =>
    refine ⟨_, rfl, v, _, rfl, .inr (.inr (.inr (.inr (.inl rfl)))), hp, _, rfl, ?_⟩
    rw [ht]
    exact iteT (q H (Same.refl H))
  | len a xs h n l =>
    refine ⟨_, rfl, .ref a, _, rfl, .inr (.inr (.inr (.inr (.inl rfl)))), pv_tup h, _, rfl, ?_⟩
    rw [tup_is h]
    refine iteF ?_
    refine ⟨_, rfl, a, xs, rfl, .inr (SqT.of h), rfl, _, rfl, ?_⟩
    have e : decide (V.int (xs.length : Nat) = V.int 2) = false := decide_eq_false fun z => n (by injection z with z; omega)
    rw [e]
    exact iteT (q H (Same.refl H))
  | two a u w h hu hw =>
    refine ⟨_, rfl, .ref a, _, rfl, .inr (.inr (.inr (.inr (.inl rfl)))), pv_tup h, _, rfl, ?_⟩
    rw [tup_is h]
    refine iteF ?_
    refine ⟨_, rfl, a, [u, w], rfl, .inr (SqT.of h), rfl, _, rfl, ?_⟩
    refine iteF ?_
    refine ⟨_, rfl, a, [u, w], rfl, SqT.of h, rfl, ?_⟩
    refine ⟨_, _, rfl, _, _, rfl, rfl, ?_⟩
    refine ⟨_, rfl, _, rfl, u, cs, rfl, al, hu, fun H1 s1 => ?_⟩
    refine ⟨_, rfl, iteB (fun c => ?_) (fun c => ?_)⟩
    · refine ⟨_, rfl, _, rfl, w, cs, rfl, al, hw.same s1, fun H2 s2 => ?_⟩
      have q := q H2 (s1.trans s2)
      rw [c, Bool.true_and] at q
      refine ⟨_, rfl, iteB (fun c2 => ?_) (fun c2 => ?_)⟩
      · rw [c2, Bool.true_and] at q
        obtain ⟨x, rfl, mx⟩ := isSym_iff c
        obtain ⟨y, rfl, my⟩ := isSym_iff c2
        have tx := (sym_tx al mx).len
        have ty := (sym_tx al my).len
        refine ⟨_, rfl, x, rfl, by rw [sizeLine_eq]; omega, _, rfl, y, rfl, by rw [sizeLine_eq]; omega, _, _, rfl, rfl, _, _, rfl, rfl, ?_⟩
        have e : decide ((0 : Int) < (x.length : Int) + (y.length : Int)) = !(decide (V.str x = V.str Str.empty) && decide (V.str y = V.str Str.empty)) := by
          rw [len0 x, len0 y]
          by_cases h1 : x.length = 0 <;> by_cases h2 : y.length = 0 <;> simp [h1, h2] <;> omega
        show Q (.bl (decide ((0 : Int) < (x.length : Int) + (y.length : Int)))) H2
        rw [e]
        exact q
      · rw [c2, Bool.false_and] at q
        exact q
    · have q := q H1 s1
      rw [c, Bool.false_and, Bool.false_and] at q
      exact q
abbrev sis_edit : Stmt := top 29
theorem scis_edit : FnScope ["value", "alphabet"] ["value", "alphabet"] (defScope sis_edit) := ⟨rfl, rfl, rfl, by decide +kernel, rfl, by decide +kernel, by decide +kernel⟩
theorem ok_edit {f f1 : Addr} {fd fd1 : FuncData} (F : Fun K "is_edit" "is_edit" sis_edit f fd)
    (D_is_pair : Df P w K mg base CX0 3 "is_pair" f1 fd1 ["value", "alphabet"] (spPair K)) : FnG P w K mg base CX0 4 f fd ["value", "alphabet"] spEdit := by
  refine okG F scis_edit (fun vs H Q E h => ?_) (fun cdv A outer s H vs Q E hc hr h => ?_)
  · obtain ⟨a, x, y, cs, rfl, _⟩ := h
    rfl
  obtain ⟨a, x, y, cs, rfl, al, ha, mx, my, ne, q⟩ := h
  refine ⟨_, (pss_one (ps_ret (pe_and (pe_d D_is_pair hc (hr.mono (by omega)) (by rfl) (fun _ => passN) (pa_cons (pv 0) (pa_cons (pv 1) pa_nil))) (pe_one (pe_cmpR op_ne (pe_ix ix_tup (pv 0) pe_int (fun _ _ => rfl)) (pe_ix ix_tup (pv 0) pe_int (fun _ _ => rfl)) (nomark _)))))), ?_⟩
  have px : SymV K H (.str x) := .str x ((sym_tx al mx).mono (by decide))
  have py : SymV K H (.str y) := .str y ((sym_tx al my).mono (by decide))
  have pv := PairV.two (K := K) (cs := cs) a _ _ ha px py
  have e : (isSym cs (.str x) && isSym cs (.str y) && !(decide (V.str x = V.str Str.empty) && decide (V.str y = V.str Str.empty))) = true := by
    have e1 : isSym cs (.str x) = true := decide_eq_true mx
    have e2 : isSym cs (.str y) = true := decide_eq_true my
    rw [e1, e2, Bool.true_and, Bool.true_and]
    by_cases h1 : V.str x = V.str Str.empty
    · have h2 : ¬ V.str y = V.str Str.empty := fun h2 => ne (by injection h1.trans h2.symm)
      rw [decide_eq_false h2, Bool.and_false]
      rfl
    · rw [decide_eq_false h1]
      rfl
  rw [e] at pv
  refine ⟨_, rfl, _, rfl, .ref a, cs, true, rfl, al, pv, fun H1 s1 => ?_⟩
  refine ⟨_, rfl, iteT ?_⟩
  have h1 := s1 _ _ ha
  refine ⟨_, rfl, a, _, _, _, rfl, rfl, SqT.of h1, atI_nat (j := 0) rfl, _, rfl, a, _, _, _, rfl, rfl, SqT.of h1, atI_nat (j := 1) rfl, ?_⟩
  refine ⟨rfl, ?_⟩
  show Q (.bl (!decide (V.str x = V.str y))) H1
  rw [decide_eq_false fun z => ne (by injection z)]
  exact q H1 s1
abbrev sis_price_table : Stmt := top 28
theorem scis_price_table : FnScope ["value", "alphabet", "key"] ["value", "alphabet"] (defScope sis_price_table) := ⟨rfl, rfl, rfl, by decide +kernel, rfl, by decide +kernel, by decide +kernel⟩
theorem ok_table {f f1 f2 : Addr} {fd fd1 fd2 : FuncData} (F : Fun K "is_price_table" "is_price_table" sis_price_table f fd) (T : Txt mg base)
    (D_is_edit : Df P w K mg base CX0 4 "is_edit" f1 fd1 ["value", "alphabet"] spEdit) (D_is_price : Df P w K mg base CX0 3 "is_price" f2 fd2 ["value"] spPrice) : FnG P w K mg base CX0 5 f fd ["value", "alphabet"] spTable := by
  refine okG F scis_price_table (fun vs H Q E h => ?_) (fun cdv A outer s H vs Q E hc hr h => ?_)
  · obtain ⟨d, cs, kvs, rfl, _⟩ := h
    rfl
  obtain ⟨d, cs, kvs, rfl, al, hd, tb, q⟩ := h
  refine ⟨_, (pss_cons (ps_if (pt_not (pt_val (pe_callB call_isD (by rfl) T.z_isinstance (by decide +kernel) (pa_cons (pv 0) (pa_cons (pe_bltn (v := .ty "dict") (by rfl) T.z_dict (by decide +kernel) rfl) pa_nil)))))
  (pss_one (ps_ret pe_bl)) pss_nil)
 (pss_one (ps_lock (ps_ret (pe_callB (cr_all rfl) (by rfl) T.z_all (by decide +kernel) (pa_cons (pe_lc (own := [("key", 2)]) (g := gName 2) rfl scis_price_table.nd (pi_keys (pv 0)) (blkOk_by (N := ["value", "alphabet", "key"]) (sc := defScope sis_price_table) (by decide +kernel)) (fun _ _ _ _ _ => pg_name (i := 2) scis_price_table.nd rfl (Or.inl rfl)) (fun _ _ _ _ _ => pts_nil) (fun _ _ _ _ _ => (pe_and (pe_d D_is_edit hc (hr.mono (by omega)) (by rfl) (fun _ => passN) (pa_cons (pv 2) (pa_cons (pv 1) pa_nil))) (pe_one (pe_d D_is_price hc (hr.mono (by omega)) (by rfl) (fun _ => passN) (pa_cons (pe_dget (hu_of hr) (pv 0) (pv 2) (fun _ _ => rfl)) pa_nil)))))) pa_nil)))))), ?_⟩
  have isd : inst "dict" Gd.Kind.dct = true := by decide +kernel
  refine ⟨_, rfl, .ref d, rfl, .inr ⟨d, kvs, rfl, hd, _, rfl, iteF ?_⟩⟩
  refine ⟨d, .dT kvs, hd, trivial, fun od => ?_⟩
  refine ⟨_, rfl, d, od, rfl, .inr ⟨kvs, upd_same, fun D hD => ?_⟩⟩
  have hDd : D ≠ d := fun e => by rw [e, upd_same] at hD; exact nomatch hD
  have nHD : H D = none := by rw [upd_ne hDd] at hD; exact hD
  refine walk_W (L2.walk_keysT) (fun i H' => H' D = some (.lst ((List.replicate i true).map V.bl)) ∧ H' d = some (.frz od (.dT kvs)) ∧ ∀ b o, b ≠ d → H b = some o → H' b = some o) ?_ (fun i H' _ pv => pv.2.1) ?_ ?_
  · refine ⟨upd_same, by rw [upd_ne hDd.symm]; exact upd_same, fun b o hb e => ?_⟩
    rw [upd_ne (ne_of_none e nHD), upd_ne hb]
    exact e
  · rintro i x H1 H2 lt ⟨p1, p2, p3⟩ ⟨rfl, k, v, b, hi, rfl, hb⟩
    obtain ⟨v', e1, m1⟩ := valV_has (List.mem_of_getElem? hi)
    obtain ⟨x, mx, y, my, ne, rfl, c, rfl, pr⟩ := tb.2 _ _ m1
    refine ⟨rfl, yes_go ?_⟩
    refine ⟨_, rfl, _, rfl, b, x, y, cs, rfl, al, hb, mx, my, ne, fun H3 s3 => ⟨_, rfl, iteT ?_⟩⟩
    have g : DGet H3 d (.ref b) (some (oV c)) := by
      rw [← e1]
      exact DGet.tz (s3 _ _ p2) (s3 _ _ hb)
    refine ⟨_, rfl, _, rfl, d, _, rfl, g, c, rfl, pr, ?_⟩
    refine ⟨_, s3 _ _ p1, by rw [List.length_map, List.length_replicate, sizeLine_eq]; have := tb.1; omega, ?_, ?_, fun e o hb he => ?_⟩
    · rw [upd_same, List.replicate_succ', List.map_append]
      rfl
    · rw [upd_ne hDd.symm]
      exact s3 _ _ p2
    · rw [upd_ne (ne_of_none he nHD)]
      exact s3 _ _ (p3 e o hb he)
  · rintro H1 ⟨p1, p2, p3⟩
    refine ⟨D, List.replicate kvs.length true, rfl, SqL.of p1, p2, ?_⟩
    have e : (List.replicate kvs.length true).all id = true := List.all_eq_true.mpr fun x hx => List.eq_of_mem_replicate hx
    rw [e]
    refine q _ fun b o he => ?_
    by_cases hb : b = d
    · subst hb
      rw [upd_same, ← he]
      exact hd.symm
    · rw [upd_ne hb]
      exact p3 b o hb he
abbrev sis_alphabet : Stmt := top 25
theorem scis_alphabet : FnScope ["value"] ["value"] (defScope sis_alphabet) := ⟨rfl, rfl, rfl, by decide +kernel, rfl, by decide +kernel, by decide +kernel⟩
theorem ok_alphabet {f f1 : Addr} {fd fd1 : FuncData} (F : Fun K "is_alphabet" "is_alphabet" sis_alphabet f fd) (T : Txt mg base)
    (D_is_text : Df P w K mg base CX0 1 "is_text" f1 fd1 ["value"] (spAsk isTxt)) : FnG P w K mg base CX0 2 f fd ["value"] spAlph := by
  refine okG F scis_alphabet (fun vs H Q E h => ?_) (fun cdv A outer s H vs Q E hc hr h => ?_)
  · obtain ⟨L, rfl, _⟩ := h
    rfl
  obtain ⟨L, rfl, al, q⟩ := h
  refine ⟨_, (pss_one (ps_ret (pe_and (pe_d D_is_text hc (hr.mono (by omega)) (by rfl) (fun _ => passN) (pa_cons (pv 0) pa_nil)) (pe_and (pe_chain op_le op_le pe_int (pe_callB call_len_str (by rfl) T.z_len (by decide +kernel) (pa_cons (pv 0) pa_nil)) (pe_k (by rfl) T.g_MOST_LETTERS)) (pe_one (pe_cmpR op_eq (pe_callB call_lenW (by rfl) T.z_len (by decide +kernel) (pa_cons (pe_callTy (cr_setX rfl) (by rfl) T.z_set (by decide +kernel) (pa_cons (pv 0) pa_nil)) pa_nil)) (pe_callB call_len_str (by rfl) T.z_len (by decide +kernel) (pa_cons (pv 0) pa_nil)) (nomark _))))))), ?_⟩
  have sz := sizeLine_eq
  have l6 := al.len
  have l1 := al.pos
  have sh : Short (.str L) := fun y e => by
    cases e
    refine ⟨by omega, fun c hc => ?_⟩
    have := al.low c hc
    unfold low at this
    rw [Bool.and_eq_true] at this
    have := of_decide_eq_true this.2
    omega
  refine ⟨_, rfl, .str L, rfl, pv_str, sh, fun H1 s1 => ⟨_, rfl, ?_⟩⟩
  have e1 : isTxt (.str L) = true := List.all_eq_true.mpr al.low
  rw [e1]
  refine iteT ?_
  refine ⟨_, rfl, L, rfl, by omega, _, _, rfl, rfl, _, rfl, ?_⟩
  rw [decide_eq_true (by omega : (1 : Int) ≤ (L.length : Nat))]
  refine iteT ⟨_, _, rfl, rfl, ?_⟩
  refine ⟨_, rfl, ?_⟩
  rw [decide_eq_true (by omega : ((L.length : Nat) : Int) ≤ 6)]
  refine iteT ⟨_, rfl, L, rfl, by omega, fun D hD => ?_⟩
  have nd : (signs L).Nodup := by
    rw [signs_eq, List.nodup_iff_pairwise_ne, List.pairwise_map]
    exact (List.nodup_iff_pairwise_ne.mp al.nd).imp fun h e => h (sg_inj e)
  have ml : (memW (signs L)).length = L.length := by
    rw [(nodup_of_len nd (fun x hx => memW_mem.mpr hx) (memW_len _)).symm.length_eq, signs_len]
  refine ⟨D, _, rfl, upd_same, by rw [ml]; omega, _, rfl, L, rfl, by omega, rfl, ?_⟩
  rw [ml]
  show Q (.bl (decide (V.int (L.length : Nat) = V.int (L.length : Nat)))) _
  rw [decide_eq_true rfl]
  exact q _ (s1.trans (upd_new hD))
end
end KC

namespace KC
open PySem L2 Gd Fw KM
/-- prices: nothing for staying, none below 0 -/
structure Prc (D : List Str) (p : Fn Str) : Prop where
  di : ∀ x ∈ D, p x x = some 0
  nn : ∀ x ∈ D, ∀ y ∈ D, Nn (p x y)
/-- the shortest lists of symbols, from where the search begins -/
def c0 : Fw.Cn Str := fun x y => if x = y then [x] else [x, y]
/-- the chains made so far -/
def ChP (D : List Str) (d : Addr) (c : Fw.Cn Str) (i j : Nat) (H : Hp) : Prop := ∃ (kvs : List (List Key × V)) (l : Str → Str → Addr), H d = some (.dT kvs) ∧ Par (prs D i j) (fun x y => .ref (l x y)) kvs ∧ ∀ q ∈ prs D i j, H (l q.1 q.2) = some (.lst ((c q.1 q.2).map V.str))
def spChains : Sp := fun vs H Q _ => ∃ (L d0 : Addr) (cs : List Nat) (p : Fn Str), vs = [.ref L, .ref d0] ∧ Alp cs ∧ H L = some (.lst ((symL cs).map V.str)) ∧ DFn H d0 (symL cs) p ∧ Prc (symL cs) p ∧
  ∀ (t d1 d2 : Addr) (H' : Hp), Same H H' → H' t = some (.tup [.ref d1, .ref d2]) → DFn H' d1 (symL cs) (run (symL cs) (symL cs) p) → CFn H' d2 (symL cs) (runC (symL cs) (symL cs) (p, c0)).2 → Q (.ref t) H'
section
variable {P : Program} {w : World} {K : PySem.W.Frag} {mg : Str → Option Value} {base : Heap}
abbrev scheapest_chains : Stmt := top 31
theorem sccheapest_chains : FnScope ["symbols", "prices", "costs", "x", "y", "chains", "middle", "through", "pair"] ["symbols", "prices"] (defScope scheapest_chains) := ⟨rfl, rfl, rfl, by decide +kernel, rfl, by decide +kernel, by decide +kernel⟩
theorem ok_chains {f f1 f2 : Addr} {fd fd1 fd2 : FuncData} (F : Fun K "cheapest_chains" "cheapest_chains" scheapest_chains f fd)
    (D_cost_sum : Df P w K mg base CX0 1 "cost_sum" f1 fd1 ["cost", "other"] spCsum) (D_is_cheaper : Df P w K mg base CX0 1 "is_cheaper" f2 fd2 ["cost", "other"] spCheap) : FnG P w K mg base CX0 2 f fd ["symbols", "prices"] spChains := by
  refine okG F sccheapest_chains (fun vs H Q E h => ?_) (fun cdv A outer s H vs Q E hc hr h => ?_)
  · obtain ⟨L, d0, cs, p, rfl, _⟩ := h
    rfl
  obtain ⟨L, d0, cs, p, rfl, al, hL, hd, pc, q⟩ := h
  refine ⟨_, (pss_cons (ps_lock (ps_setdcT (i := 2) (own := [("pair", 8)]) (g := gName 8) (hu_of hr) rfl sccheapest_chains.nd rfl rfl (sw_dict rfl rfl rfl (by decide +kernel)) (pi_keys (pv 1)) (blkOk_by (N := ["symbols", "prices", "costs", "x", "y", "chains", "middle", "through", "pair"]) (sc := defScope scheapest_chains) (by decide +kernel)) (fun _ _ _ _ _ => pg_name (i := 8) sccheapest_chains.nd rfl (Or.inl rfl)) (fun _ _ _ _ _ => pts_nil) (fun _ _ _ _ _ => (pv 8)) (fun _ _ _ _ _ => (pe_dget (hu_of hr) (pv 1) (pv 8) (fun _ _ => rfl)))))
 (pss_cons (ps_setdcT2 (i := 5) (own := [("x", 3), ("y", 4)]) (vs1 := [4]) (g := gName 3) (g1 := gName 4) (hu_of hr) rfl sccheapest_chains.nd rfl rfl (sw_dict rfl rfl rfl (by decide +kernel)) (pi_list (pv 0)) (blkOk_by (N := ["symbols", "prices", "costs", "x", "y", "chains", "middle", "through", "pair"]) (sc := defScope scheapest_chains) (by decide +kernel)) (by decide) (fun _ _ _ _ _ => pg_name (i := 3) sccheapest_chains.nd rfl (Or.inl rfl)) (fun _ _ _ _ _ => pts_nil) (fun _ _ _ _ _ => (pi_listK (K := K) rfl (pv 0))) (fun _ _ _ _ _ => pg_name (i := 4) sccheapest_chains.nd rfl (Or.inl rfl)) (fun _ _ _ _ _ => pts_nil) (fun _ _ _ _ _ => (pe_tup (pa_cons (pv 3) (pa_cons (pv 4) pa_nil)))) (fun _ _ _ _ _ => (pe_ifExp (pt_cmpR op_eq (pv 3) (pv 4) (nomark _)) (pe_lst (pa_cons (pv 3) pa_nil)) (pe_lst (pa_cons (pv 3) (pa_cons (pv 4) pa_nil))))))
 (pss_cons (ps_for (passes_of rfl) rfl (pi_list (pv 0)) (pg_name (i := 6) sccheapest_chains.nd rfl (Or.inl rfl))
  (pss_one (ps_for (passes_of rfl) rfl (pi_list (pv 0)) (pg_name (i := 3) sccheapest_chains.nd rfl (Or.inl rfl))
  (pss_one (ps_for (passes_of rfl) rfl (pi_list (pv 0)) (pg_name (i := 4) sccheapest_chains.nd rfl (Or.inl rfl))
  (pss_cons (ps_set (i := 7) sccheapest_chains.nd rfl (Or.inl rfl) (pe_d D_cost_sum hc (hr.mono (by omega)) (by rfl) (fun _ => passN) (pa_cons (pe_dget (hu_of hr) (pv 2) (pe_tup (pa_cons (pv 3) (pa_cons (pv 6) pa_nil))) (fun _ _ => rfl)) (pa_cons (pe_dget (hu_of hr) (pv 2) (pe_tup (pa_cons (pv 6) (pa_cons (pv 4) pa_nil))) (fun _ _ => rfl)) pa_nil))))
 (pss_one (ps_if (pt_val (pe_d D_is_cheaper hc (hr.mono (by omega)) (by rfl) (fun _ => passN) (pa_cons (pv 7) (pa_cons (pe_dget (hu_of hr) (pv 2) (pe_tup (pa_cons (pv 3) (pa_cons (pv 4) pa_nil))) (fun _ _ => rfl)) pa_nil))))
  (pss_cons (ps_dput (hu_of hr) (pv 2) (pe_tup (pa_cons (pv 3) (pa_cons (pv 4) pa_nil))) (pv 7) rfl)
 (pss_one (ps_dput (hu_of hr) (pv 5) (pe_tup (pa_cons (pv 3) (pa_cons (pv 4) pa_nil))) (pe_op op_cat (pe_dget (hu_of hr) (pv 5) (pe_tup (pa_cons (pv 3) (pa_cons (pv 6) pa_nil))) (fun _ _ => rfl)) (pe_slice sl_list (pe_dget (hu_of hr) (pv 5) (pe_tup (pa_cons (pv 6) (pa_cons (pv 4) pa_nil))) (fun _ _ => rfl)) (po_some pe_int) po_none)) rfl))) pss_nil))))))))
 (pss_one (ps_ret (pe_tup (pa_cons (pv 2) (pa_cons (pv 5) pa_nil)))))))), ?_⟩
  obtain ⟨kvs, hd1, dic⟩ := hd
  have sz := sizeLine_eq
  refine ⟨d0, .dT kvs, hd1, trivial, fun od => ?_⟩
  refine ⟨_, rfl, d0, od, rfl, .inr ⟨kvs, upd_same, fun D1 hD1 => ?_⟩⟩
  have ne1 : D1 ≠ d0 := fun e => by rw [e, upd_same] at hD1; exact nomatch hD1
  have n1 : H D1 = none := by rw [upd_ne ne1] at hD1; exact hD1
  refine walk_W (L2.walk_keysT) (fun i H' => (∃ ws, H' D1 = some (.dT ws) ∧ Cop kvs i ws) ∧ H' d0 = some (.frz od (.dT kvs)) ∧ ∀ b o, b ≠ d0 → H b = some o → H' b = some o) ?_ (fun i H' _ pv => pv.2.1) ?_ ?_
  · refine ⟨⟨[], upd_same, cop_nil kvs⟩, by rw [upd_ne ne1.symm]; exact upd_same, fun b o hb e => ?_⟩
    rw [upd_ne (ne_of_none e n1), upd_ne hb]
    exact e
  · rintro i x H1 H2 lt ⟨⟨ws, p1, pc1⟩, p2, p3⟩ ⟨rfl, k, v, b, hi, rfl, hb⟩
    obtain ⟨v', e1, m1⟩ := valV_has (List.mem_of_getElem? hi)
    refine ⟨rfl, yes_go ?_⟩
    have g : DGet H2 d0 (.ref b) (some v') := by
      rw [← e1]
      exact DGet.tz p2 hb
    refine ⟨_, rfl, _, rfl, _, rfl, d0, _, rfl, g, ws, k, b, rfl, p1, hb, ?_, ?_⟩
    · have := pc1.len
      have := dic.len
      omega
    · refine ⟨⟨_, upd_same, pc1.put hi e1⟩, by rw [upd_ne ne1.symm]; exact p2, fun c o hc he => ?_⟩
      rw [upd_ne (ne_of_none he n1)]
      exact p3 c o hc he
  rintro H1 ⟨⟨ws, p1, pc1⟩, p2, p3⟩
  refine ⟨p2, ?_⟩
  have dic1 : Dic (symL cs) (fun x y => oV (p x y)) ws := pc1.dic dic
  have s1 : Same H (upd H1 d0 (.dT kvs)) := fun b o e => by
    by_cases hb : b = d0
    · subst hb
      rw [upd_same, ← hd1]
      exact e
    · rw [upd_ne hb]
      exact p3 b o hb e
  have f1 : DFn (upd H1 d0 (.dT kvs)) D1 (symL cs) p := ⟨ws, by rw [upd_ne ne1]; exact p1, dic1⟩
  generalize upd H1 d0 (.dT kvs) = H2 at s1 f1
  clear p1 pc1 p2 p3 H1
  refine ⟨_, rfl, L, rfl, ⟨_, SqL.of (s1 _ _ hL)⟩, fun D2 hD2 => ?_⟩
  generalize hD : symL cs = D at *
  have nd : D.Nodup := hD ▸ al.nds
  have l7 : D.length ≤ 7 := hD ▸ al.lens
  have atD : ∀ {i : Nat} {x : V}, (D.map V.str)[i]? = some x → ∃ X, D[i]? = some X ∧ x = .str X := fun {i x} h => by
    rw [List.getElem?_map] at h
    cases e : D[i]? with
    | none => rw [e] at h; exact nomatch h
    | some X => rw [e] at h; exact ⟨X, rfl, (Option.some.inj h).symm⟩
  refine walk_W (L2.walk_list (xs := D.map V.str)) (fun i H' => ChP D D2 c0 i 0 H' ∧ Same H2 H') ?_ (fun i H' _ pv => SqL.of (pv.2 _ _ (s1 _ _ hL))) ?_ ?_
  · exact ⟨⟨[], fun _ _ => 0, upd_same, by rw [prs_zero]; exact par_nil _, by rw [prs_zero]; exact fun q h => nomatch h⟩, upd_new hD2⟩
  · rintro i x H3 _ lt ⟨pv, s3⟩ ⟨rfl, hx⟩
    obtain ⟨X, hX, rfl⟩ := atD hx
    refine ⟨rfl, yes_go ?_⟩
    refine ⟨_, rfl, L, rfl, ⟨_, SqL.of (s3 _ _ (s1 _ _ hL))⟩, ?_⟩
    refine walk_W (L2.walk_list (xs := D.map V.str)) (fun j H' => ChP D D2 c0 i j H' ∧ Same H2 H') ⟨pv, s3⟩ (fun i H' _ pv => SqL.of (pv.2 _ _ (s1 _ _ hL))) ?_ ?_
    · clear pv s3
      rintro j y H3 _ ltj ⟨pv, s3⟩ ⟨rfl, hy⟩
      obtain ⟨Y, hY, rfl⟩ := atD hy
      refine ⟨rfl, yes_go ?_⟩
      refine ⟨_, rfl, _, rfl, by show 2 ≤ sizeLine; decide, fun b hb => ?_⟩
      rename_i H4
      obtain ⟨kv, l, q1, q2, q3⟩ := pv
      have nb : ∀ {c : Addr} {o : HO}, H4 c = some o → c ≠ b := fun h => ne_of_none h hb
      have fin : ∀ (r : List Str) (n : Addr), (upd H4 b (.tup [.str X, .str Y])) n = none → r = c0 X Y → ∃ kvs k b', V.ref b = .ref b' ∧ (upd (upd H4 b (.tup [.str X, .str Y])) n (.lst (r.map V.str))) D2 = some (.dT kvs) ∧
          (upd (upd H4 b (.tup [.str X, .str Y])) n (.lst (r.map V.str))) b' = some (.tup (k.map kV)) ∧ kvs.length < sizeLine ∧
          (fun H' => ChP D D2 c0 i (j + 1) H' ∧ Same H2 H') (upd (upd (upd H4 b (.tup [.str X, .str Y])) n (.lst (r.map V.str))) D2 (.dT (putK kvs k (.ref n)))) := by
        intro r n hn er
        subst er
        have nbn : n ≠ b := fun e => by rw [e, upd_same] at hn; exact nomatch hn
        have hn4 : H4 n = none := by rw [upd_ne nbn] at hn; exact hn
        have nn : ∀ {c : Addr} {o : HO}, H4 c = some o → c ≠ n := fun h => ne_of_none h hn4
        refine ⟨kv, kk X Y, b, rfl, by rw [upd_ne (nn q1), upd_ne (nb q1)]; exact q1, by rw [upd_ne nbn.symm]; exact upd_same, ?_, ?_, ?_⟩
        · have := q2.len
          have := prs_len l7 i j (by rw [List.length_map] at lt; omega)
          omega
        · refine ⟨_, Fw.put l X Y n, upd_same, ?_, ?_⟩
          · rw [prs_col hX hY]
            refine (q2.put X Y (.ref n)).congr fun q hq => ?_
            unfold Fw.put
            split <;> rfl
          · rw [prs_col hX hY]
            have nD2 : n ≠ D2 := (nn q1).symm
            intro q hq
            by_cases e : q.1 = X ∧ q.2 = Y
            · obtain ⟨e1, e2⟩ := e
              rw [e1, e2, put_same, upd_ne nD2]
              exact upd_same
            · have hq : q ∈ prs D i j := by
                rcases List.mem_append.mp hq with h | h
                · exact h
                · cases List.mem_singleton.mp h
                  exact absurd ⟨rfl, rfl⟩ e
              have z := q3 q hq
              rw [put_ne e, upd_ne (ne_of z q1 (fun z => nomatch z)), upd_ne (nn z), upd_ne (nb z)]
              exact z
        · intro c o hc
          rw [upd_ne (ne_of_none hc hD2)]
          have z := s3 c o hc
          rw [upd_ne (nn z), upd_ne (nb z)]
          exact z
      refine ⟨_, rfl, _, rfl, rfl, _, rfl, ?_⟩
      refine iteB (fun c => ?_) (fun c => ?_)
      · have e : X = Y := by injection (of_decide_eq_true c)
        refine ⟨_, rfl, by show 1 ≤ sizeLine; decide, fun n hn => ?_⟩
        exact fin [X] n hn (by unfold c0; rw [if_pos e])
      · have e : X ≠ Y := fun e => of_decide_eq_false c (by rw [e])
        refine ⟨_, rfl, _, rfl, by show 2 ≤ sizeLine; decide, fun n hn => ?_⟩
        exact fin [X, Y] n hn (by unfold c0; rw [if_neg e])
    · rintro H4 ⟨pv, s4⟩
      rw [List.length_map] at pv
      refine ⟨?_, s4⟩
      unfold ChP at pv ⊢
      rw [prs_row (by rw [List.length_map] at lt; exact lt)] at pv
      exact pv
  rintro H3 ⟨⟨kv, l, q1, q2, q3⟩, s3⟩
  rw [List.length_map] at q2 q3
  have n2 : H D2 = none := by
    cases e : H D2 with
    | none => rfl
    | some o => rw [s1 _ _ e] at hD2; exact nomatch hD2
  have n12 : D1 ≠ D2 := by
    obtain ⟨_, z, _⟩ := f1
    exact ne_of_none z hD2
  have hold : Hold H D1 D2 D (p, c0) H3 := ⟨f1.same s3, ⟨kv, l, q1, q2.dic l7, fun x hx y hy => q3 (x, y) (prs_all hx hy)⟩, s1.trans s3⟩
  clear q1 q2 q3 kv l s3 f1 hD1 hD2 ne1 s1 dic dic1 hd1 kvs ws
  have slots : ∃ x y m t, (List.set (List.set (L2.start ["symbols", "prices", "costs", "x", "y", "chains", "middle", "through", "pair"] [V.ref L, V.ref d0]) 2 (some (.ref D1))) 5 (some (.ref D2))) = [some (V.ref L), some (.ref d0), some (.ref D1), x, y, some (.ref D2), m, t, none] := ⟨_, _, _, _, rfl⟩
  refine ⟨_, rfl, L, rfl, ⟨_, SqL.of (hold.k _ _ hL)⟩, ?_⟩
  have J0 : Jn p [] D (p, c0) := start_jn pc.di pc.nn
  refine L2.for_it (L2.walk_list (xs := D.map V.str)) (fun i σ H' => (∃ x y m t, σ = [some (V.ref L), some (.ref d0), some (.ref D1), x, y, some (.ref D2), m, t, none]) ∧ Hold H D1 D2 D (runC (D.take i) D (p, c0)) H') ⟨slots, hold⟩ (fun i σ H' _ pv => SqL.of (pv.2.k _ _ hL)) ?_ ?_
  · clear slots hold H3
    rintro i v σ H3 _ lt ⟨⟨x, y, m, t, rfl⟩, hold⟩ ⟨rfl, hx⟩
    obtain ⟨M, hM, rfl⟩ := atD hx
    have mD : M ∈ D := List.mem_of_getElem? hM
    obtain ⟨S, J⟩ : ∃ S, Jn p S D (runC (D.take i) D (p, c0)) := ⟨_, run_jn nd (D.take i) [] _ (fun z hz => List.mem_of_mem_take hz) (fun z hz => nomatch hz) J0⟩
    have step : runC (D.take (i + 1)) D (p, c0) = pass M D D (runC (D.take i) D (p, c0)) := fold_take _ _ hM
    rw [step]
    generalize runC (D.take i) D (p, c0) = s0 at hold J
    refine ⟨_, rfl, L, rfl, ⟨_, SqL.of (hold.k _ _ hL)⟩, ?_⟩
    refine L2.for_it (L2.walk_list (xs := D.map V.str)) (fun j σ H' => (∃ x y t, σ = [some (V.ref L), some (.ref d0), some (.ref D1), x, y, some (.ref D2), some (.str M), t, none]) ∧ Hold H D1 D2 D (pass M (D.take j) D s0) H') ⟨⟨_, _, _, rfl⟩, hold⟩ (fun i σ H' _ pv => SqL.of (pv.2.k _ _ hL)) ?_ ?_
    · clear hold x y m t
      rintro j v σ H3 _ ltj ⟨⟨x, y, t, rfl⟩, hold⟩ ⟨rfl, hx⟩
      obtain ⟨X, hX, rfl⟩ := atD hx
      have xD : X ∈ D := List.mem_of_getElem? hX
      have step : pass M (D.take (j + 1)) D s0 = row M X D (pass M (D.take j) D s0) := fold_take _ _ hX
      rw [step]
      refine ⟨_, rfl, L, rfl, ⟨_, SqL.of (hold.k _ _ hL)⟩, ?_⟩
      refine L2.for_it (L2.walk_list (xs := D.map V.str)) (fun k σ H' => (∃ y t, σ = [some (V.ref L), some (.ref d0), some (.ref D1), some (.str X), y, some (.ref D2), some (.str M), t, none]) ∧ Hold H D1 D2 D (row M X (D.take k) (pass M (D.take j) D s0)) H') ⟨⟨_, _, rfl⟩, hold⟩ (fun i σ H' _ pv => SqL.of (pv.2.k _ _ hL)) ?_ ?_
      · clear hold x y t
        rintro k v σ H3 _ ltk ⟨⟨y, t, rfl⟩, hold⟩ ⟨rfl, hx⟩
        obtain ⟨Y, hY, rfl⟩ := atD hx
        have yD : Y ∈ D := List.mem_of_getElem? hY
        have step : row M X (D.take (k + 1)) (pass M (D.take j) D s0) = relaxC M X Y (row M X (D.take k) (pass M (D.take j) D s0)) := fold_take _ _ hY
        rw [step]
        rename_i H3
        have notin : X ∉ D.take j := by
          have nd2 := nd
          rw [← List.take_append_drop j D] at nd2
          have inD : X ∈ D.drop j := List.mem_of_getElem? (i := 0) (by rw [List.getElem?_drop]; exact hX)
          exact fun z => (List.nodup_append.mp nd2).2.2 X z X inD rfl
        obtain ⟨Pm, hPm⟩ := mid (J.g.di M mD) (xs := D.take j) (ys := D) (nd.sublist (List.take_sublist _ _)) nd notin (zs := D.take k) (nd.sublist (List.take_sublist _ _))
        have col := one_col (P := Pm) (J.g.di M mD) X
        have row' := one_row (P := Pm) (J.g.di M mD) Y
        rw [← hPm] at col row'
        generalize row M X (D.take k) (pass M (D.take j) D s0) = st at hold col row'
        clear step hPm notin
        refine ⟨_, rfl, _, rfl, _, rfl, by show 2 ≤ sizeLine; decide, fun b1 hb1 => ?_⟩
        have h1 := hold.new (o := .tup [.str X, .str M]) hb1
        refine ⟨D1, _, rfl, h1.f.get xD mD upd_same, ?_⟩
        refine ⟨_, rfl, _, rfl, _, rfl, by show 2 ≤ sizeLine; decide, fun b2 hb2 => ?_⟩
        have h2 := h1.new (o := .tup [.str M, .str Y]) hb2
        refine ⟨D1, _, rfl, h2.f.get mD yD upd_same, ?_⟩
        refine ⟨_, _, rfl, ?_⟩
        refine ⟨_, rfl, _, rfl, _, rfl, _, rfl, by show 2 ≤ sizeLine; decide, fun b3 hb3 => ?_⟩
        have h3 := h2.new (o := .tup [.str X, .str Y]) hb3
        refine ⟨D1, _, rfl, h3.f.get xD yD upd_same, ?_⟩
        refine ⟨_, _, rfl, ?_⟩
        generalize upd (upd (upd H3 b1 _) b2 _) b3 _ = H4 at h3
        clear h1 h2 hb1 hb2 hb3 hold H3
        refine ⟨_, rfl, ?_⟩
        have key : ∀ H', Hold H D1 D2 D (relaxC M X Y st) H' → (fun σ H' => (∃ y t, σ = [some (V.ref L), some (.ref d0), some (.ref D1), some (.str X), y, some (.ref D2), some (.str M), t, none]) ∧ Hold H D1 D2 D (relaxC M X Y st) H') [some (V.ref L), some (.ref d0), some (.ref D1), some (.str X), some (.str Y), some (.ref D2), some (.str M), some (oV (csum (st.1 X M) (st.1 M Y))), none] H' := fun H' h => ⟨⟨_, _, rfl⟩, h⟩
        refine iteB (fun c => ?_) (fun c => ?_)
        · have e : relaxC M X Y st = (Fw.put st.1 X Y (csum (st.1 X M) (st.1 M Y)), Fw.put st.2 X Y (st.2 X M ++ (st.2 M Y).tail)) := by
            unfold relaxC
            rw [if_pos c]
          have lens : (st.2 X M).length ≤ 7 ∧ (st.2 M Y).length ≤ 7 ∧ 1 ≤ (st.2 M Y).length := by
            cases ec : csum (st.1 X M) (st.1 M Y) with
            | none => rw [ec] at c; exact nomatch c
            | some w =>
              obtain ⟨u, v, e1, e2, _⟩ := csum_some ec
              rw [col.1] at e1
              rw [row'.1] at e2
              rw [col.2, row'.2]
              obtain ⟨r, hr⟩ := (J.wy M mD Y yD v e2).hd
              exact ⟨Nat.le_trans (J.wy X xD M mD u e1).len l7, Nat.le_trans (J.wy M mD Y yD v e2).len l7, by rw [hr]; exact Nat.succ_pos _⟩
          clear c col row'
          refine ⟨_, rfl, _, rfl, _, rfl, _, rfl, by show 2 ≤ sizeLine; decide, fun b4 hb4 => ?_⟩
          have h4 := h3.new (o := .tup [.str X, .str Y]) hb4
          obtain ⟨H5, dp, h5⟩ := h4.put1 (c := csum (st.1 X M) (st.1 M Y)) n1 n12 xD yD upd_same
          refine ⟨D1, H5, rfl, dp, ?_⟩
          clear h3 h4 dp hb4
          refine ⟨_, rfl, _, rfl, _, rfl, by show 2 ≤ sizeLine; decide, fun b5 hb5 => ?_⟩
          have h6 := h5.new (o := .tup [.str X, .str M]) hb5
          obtain ⟨l1, g1, hl1⟩ := h6.c.get xD mD upd_same
          refine ⟨D2, _, rfl, g1, ?_⟩
          refine ⟨_, rfl, _, rfl, _, rfl, by show 2 ≤ sizeLine; decide, fun b6 hb6 => ?_⟩
          have h7 := h6.new (o := .tup [.str M, .str Y]) hb6
          obtain ⟨l2, g2, hl2⟩ := h7.c.get mD yD upd_same
          refine ⟨D2, _, rfl, g2, ?_⟩
          refine ⟨1, rfl, l2, _, rfl, SqL.of hl2, fun n hn => ?_⟩
          have et : cutV ((st.2 M Y).map V.str) (some 1) none = ((st.2 M Y).tail).map V.str := by
            have := cut_from (xs := (st.2 M Y).map V.str) (i := 1) (by rw [List.length_map]; exact lens.2.2)
            exact this.trans (by rw [List.drop_one, List.map_tail])
          rw [et]
          have h8 := h7.new (o := .lst (((st.2 M Y).tail).map V.str)) hn
          have hl1' := (same_new (o := .lst (((st.2 M Y).tail).map V.str)) hn) _ _ ((same_new (o := .tup [.str M, .str Y]) hb6) _ _ hl1)
          refine ⟨l1, n, _, _, rfl, rfl, hl1', upd_same, ?_, fun m hm => ?_⟩
          · rw [List.length_map, List.length_map, List.length_tail]
            show (st.2 X M).length + ((st.2 M Y).length - 1) ≤ sizeLine
            omega
          rw [← List.map_append]
          have h9 := h8.new (o := .lst ((st.2 X M ++ (st.2 M Y).tail).map V.str)) hm
          refine ⟨_, rfl, _, rfl, _, rfl, by show 2 ≤ sizeLine; decide, fun b7 hb7 => ?_⟩
          have h10 := h9.new (o := .tup [.str X, .str Y]) hb7
          have hm' := (same_new (o := .tup [.str X, .str Y]) hb7) m (.lst ((st.2 X M ++ (st.2 M Y).tail).map V.str)) upd_same
          obtain ⟨H11, dp2, h11⟩ := h10.put2 n2 n12 xD yD upd_same hm'
          exact ⟨D2, H11, rfl, dp2, key _ (by rw [e]; exact h11)⟩
        · refine key _ ?_
          have e : relaxC M X Y st = st := by
            unfold relaxC
            rw [c]
            rfl
          rw [e]
          exact h3
      · rintro σ H4 ⟨⟨y, t, rfl⟩, hold⟩
        rw [List.length_map, List.take_length] at hold
        exact ⟨⟨_, _, _, rfl⟩, hold⟩
    · rintro σ H4 ⟨⟨x, y, t, rfl⟩, hold⟩
      rw [List.length_map, List.take_length] at hold
      exact ⟨⟨_, _, _, _, rfl⟩, hold⟩
  · rintro σ H4 ⟨⟨x, y, m, t, rfl⟩, hold⟩
    rw [List.length_map, List.take_length] at hold
    refine ⟨_, rfl, _, rfl, by show 2 ≤ sizeLine; decide, fun b hb => ?_⟩
    have h2 := hold.new (o := .tup [.ref D1, .ref D2]) hb
    have hf := h2.f
    rw [runC_fst] at hf
    exact q b D1 D2 _ h2.k upd_same hf h2.c
end
end KC

namespace KC
open PySem L2 Gd Fw KM
def vO : V → Co
  | .int i => some i
  | _ => none
theorem vO_oV (a : Co) : vO (oV a) = a := by
  match a with
  | none => rfl
  | some i => rfl
/-- the prices that a table and a common price tell -/
def prc (kvs : List (List Key × V)) (c : Co) : Fn Str := fun a b => if a = b then some 0 else match valV kvs (kk a b) with
  | some v => vO v
  | none => c
theorem prc_prc {D : List Str} {kvs : List (List Key × V)} {c : Co} (t : Tab D kvs) (hc : Pr c) : Prc D (prc kvs c) := by
  refine ⟨fun x _ => if_pos rfl, fun x hx y hy => ?_⟩
  have pn : ∀ {a : Co}, Pr a → Nn a := fun {a} h w e => ⟨0, rfl, (h w e).1⟩
  unfold prc
  by_cases e : x = y
  · rw [if_pos e]
    exact Le.refl _
  · rw [if_neg e]
    cases h : valV kvs (kk x y) with
    | none => exact pn hc
    | some v =>
      obtain ⟨_, _, _, _, _, _, a, rfl, pa⟩ := t.2 _ _ (valV_mem h)
      show Nn (vO (oV a))
      rw [vO_oV]
      exact pn pa
theorem Tab.mono {D D' : List Str} {kvs : List (List Key × V)} (t : Tab D kvs) (h : ∀ x ∈ D, x ∈ D') : Tab D' kvs :=
  ⟨t.1, fun k v m => let ⟨x, hx, y, hy, r⟩ := t.2 k v m; ⟨x, h x hx, y, h y hy, r⟩⟩
abbrev spn (cs : List Nat) (p : Fn Str) : Fn Str := run (symL cs) (symL cs) p
/-- the greatest cost -/
def Top (D : List Str) (f : Fn Str) (m : Int) : Prop := (∃ x ∈ D, ∃ y ∈ D, f x y = some m) ∧ ∀ x ∈ D, ∀ y ∈ D, ∀ w, f x y = some w → w ≤ m
/-- a Prices object -/
def PrAt (C : Addr) (H : Hp) (v : V) (cs : List Nat) (p : Fn Str) : Prop := ∃ (a dx d0 d1 d2 : Addr) (m : Int), v = .ref a ∧
  H a = some (.ins C dx [("_alphabet", .str (alph cs)), ("_prices", .ref d0), ("_costs", .ref d1), ("_chains", .ref d2), ("_highest", .int m)]) ∧
  DFn H d0 (symL cs) p ∧ DFn H d1 (symL cs) (spn cs p) ∧ CFn H d2 (symL cs) (runC (symL cs) (symL cs) (p, c0)).2 ∧ Top (symL cs) (spn cs p) m
theorem PrAt.same {C : Addr} {H H' : Hp} {v : V} {cs : List Nat} {p : Fn Str} (h : PrAt C H v cs p) (e : Same H H') : PrAt C H' v cs p :=
  let ⟨a, dx, d0, d1, d2, m, h1, h2, h3, h4, h5, h6⟩ := h
  ⟨a, dx, d0, d1, d2, m, h1, e _ _ h2, h3.same e, h4.same e, h5.same e, h6⟩
/-- the prices stored so far -/
def PrP (D : List Str) (d : Addr) (p : Fn Str) (i j : Nat) (H : Hp) : Prop := ∃ kvs, H d = some (.dT kvs) ∧ Par (prs D i j) (fun x y => oV (p x y)) kvs
theorem put_self {α β : Type} [DecidableEq α] (f : α → α → β) (x y a b : α) : Fw.put f x y (f x y) a b = f a b := by
  unfold Fw.put
  split
  · rename_i h
    rw [h.1, h.2]
  · rfl
def spInit (C : Addr) : Sp := fun vs H Q _ => ∃ (x dx d : Addr) (L : Str) (kvs : List (List Key × V)) (c : Co), vs = [.ref x, .str L, .ref d, oV c] ∧ H x = some (.ins C dx []) ∧ Lets L ∧ H d = some (.dT kvs) ∧ Tab (symL (cod L)) kvs ∧ Pr c ∧
  ∀ H', (∀ b o, b ≠ x → H b = some o → H' b = some o) → PrAt C H' (.ref x) (cod L) (prc kvs c) → Q .non H'
section
variable {P : Program} {w : World} {K : PySem.W.Frag} {mg : Str → Option Value} {base : Heap}
/-- what the walk asks of the class -/
structure TxC (K : PySem.W.Frag) (mg : Str → Option Value) (C : Addr) : Prop where
  cl : Cls K C
  nA : NoAttr K C "_alphabet"
  nP : NoAttr K C "_prices"
  nC : NoAttr K C "_costs"
  nH : NoAttr K C "_chains"
  nG : NoAttr K C "_highest"
abbrev sPrices___init__ : Stmt := inClass (top 24) 0
theorem scPrices___init__ : FnScope ["self", "alphabet", "table", "default", "symbols", "costs", "chains", "x", "y", "pair"] ["self", "alphabet", "table", "default"] (defScope sPrices___init__) := ⟨rfl, rfl, rfl, by decide +kernel, rfl, by decide +kernel, by decide +kernel⟩
theorem ok_init {C f f1 f2 f3 f4 : Addr} {fd fd1 fd2 fd3 fd4 : FuncData} (F : Fun K "__init__" "Prices.__init__" sPrices___init__ f fd) (T : Txt mg base) (TC : TxC K mg C)
    (D_is_alphabet : Df P w K mg base CX0 2 "is_alphabet" f1 fd1 ["value"] spAlph) (D_is_price_table : Df P w K mg base CX0 5 "is_price_table" f2 fd2 ["value", "alphabet"] spTable) (D_is_price : Df P w K mg base CX0 3 "is_price" f3 fd3 ["value"] spPrice)
    (D_cheapest_chains : Df P w K mg base CX0 2 "cheapest_chains" f4 fd4 ["symbols", "prices"] spChains) : FnG P w K mg base CX0 6 f fd ["self", "alphabet", "table", "default"] (spInit C) := by
  refine okG F scPrices___init__ (fun vs H Q E h => ?_) (fun cdv A outer s H vs Q E hc hr h => ?_)
  · obtain ⟨x, dx, d, L, kvs, c, rfl, _⟩ := h
    rfl
  obtain ⟨x, dx, d, L, kvs, c, rfl, hx, al, hd, tb, pc, q⟩ := h
  refine ⟨_, (pss_cons (ps_if (pt_not (pt_val (pe_d D_is_alphabet hc (hr.mono (by omega)) (by rfl) (fun _ => passN) (pa_cons (pv 1) pa_nil))))
  (pss_one ps_never) pss_nil)
 (pss_cons (ps_if (pt_not (pt_val (pe_d D_is_price_table hc (hr.mono (by omega)) (by rfl) (fun _ => passN) (pa_cons (pv 2) (pa_cons (pv 1) pa_nil)))))
  (pss_one ps_never) pss_nil)
 (pss_cons (ps_if (pt_not (pt_val (pe_d D_is_price hc (hr.mono (by omega)) (by rfl) (fun _ => passN) (pa_cons (pv 3) pa_nil))))
  (pss_one ps_never) pss_nil)
 (pss_cons (ps_set (i := 4) scPrices___init__.nd rfl (Or.inr rfl) (pe_op op_cat (pe_lst (pa_cons pe_str pa_nil)) (pe_callB (cr_sortX rfl) (by rfl) T.z_sorted (by decide +kernel) (pa_cons (pv 1) pa_nil))))
 (pss_cons (ps_fld (pv 0) (pe_join pe_str (pv 4)) rfl)
 (pss_cons (ps_fld (pv 0) (pe_dcT2 (own := [("x", 7), ("y", 8)]) (vs1 := [8]) (g := gName 7) (g1 := gName 8) (hu_of hr) rfl scPrices___init__.nd (pi_list (pv 4)) (blkOk_by (N := ["self", "alphabet", "table", "default", "symbols", "costs", "chains", "x", "y", "pair"]) (sc := defScope sPrices___init__) (by decide +kernel)) (by decide) (fun _ _ _ _ _ => pg_name (i := 7) scPrices___init__.nd rfl (Or.inl rfl)) (fun _ _ _ _ _ => pts_nil) (fun _ _ _ _ _ => (pi_listK (K := K) rfl (pv 4))) (fun _ _ _ _ _ => pg_name (i := 8) scPrices___init__.nd rfl (Or.inl rfl)) (fun _ _ _ _ _ => pts_nil) (fun _ _ _ _ _ => (pe_tup (pa_cons (pv 7) (pa_cons (pv 8) pa_nil)))) (fun _ _ _ _ _ => (pe_ifExp (pt_cmpR op_eq (pv 7) (pv 8) (nomark _)) pe_int (pe_dget2 (hu_of hr) (pv 2) (pe_tup (pa_cons (pv 7) (pa_cons (pv 8) pa_nil))) (pv 3) ⟨by rfl, by rfl, by rfl, by rfl⟩)))) rfl)
 (pss_cons (ps_asg (pe_d D_cheapest_chains hc (hr.mono (by omega)) (by rfl) (fun _ => passN) (pa_cons (pv 4) (pa_cons (pe_fld (pv 0) rfl) pa_nil))) (pg_tup (by rfl) (pgs_cons (pg_name (i := 5) scPrices___init__.nd rfl (Or.inr rfl)) (pgs_cons (pg_name (i := 6) scPrices___init__.nd rfl (Or.inl rfl)) pgs_nil))))
 (pss_cons (ps_fld (pv 0) (pv 5) rfl)
 (pss_cons (ps_fld (pv 0) (pv 6) rfl)
 (pss_one (ps_lock (ps_fld (pv 0) (pe_callB (cr_max rfl) (by rfl) T.z_max (by decide +kernel) (pa_cons (pe_lc (own := [("pair", 9)]) (g := gName 9) rfl scPrices___init__.nd (pi_keys (pv 5)) (blkOk_by (N := ["self", "alphabet", "table", "default", "symbols", "costs", "chains", "x", "y", "pair"]) (sc := defScope sPrices___init__) (by decide +kernel)) (fun _ _ _ _ _ => pg_name (i := 9) scPrices___init__.nd rfl (Or.inl rfl)) (fun _ _ _ _ _ => (pts_one (pt_cmpR op_notN (pe_dget (hu_of hr) (pv 5) (pv 9) (fun _ _ => rfl)) pe_non (nomark _)))) (fun _ _ _ _ _ => (pe_dget (hu_of hr) (pv 5) (pv 9) (fun _ _ => rfl)))) pa_nil)) rfl)))))))))))), ?_⟩
  have sz := sizeLine_eq
  have a0 := al.alp0
  have a1 := al.alp
  have ll := al.len
  refine ⟨_, rfl, L, rfl, al, fun H1 s1 => ⟨_, rfl, iteF ?_⟩⟩
  have tb' : Tab (symL L.cps.toList) kvs := tb.mono fun x h => sym_self.mpr h
  refine ⟨_, rfl, _, rfl, d, L.cps.toList, kvs, by rw [alph_self]; rfl, a0, s1 _ _ hd, tb', fun H2 s2 => ⟨_, rfl, iteF ?_⟩⟩
  refine ⟨_, rfl, c, rfl, pc, _, rfl, iteF ?_⟩
  refine ⟨by show 1 ≤ sizeLine; decide, fun l1 hl1 => ?_⟩
  refine ⟨_, rfl, L, rfl, by omega, fun ys l2 perm srt hl2 => ?_⟩
  have ey := sorted_eq perm srt
  subst ey
  have cl := cod_len L
  have s3 := s1.trans s2
  have sA := s3.trans (same_new (o := .lst [.str (Str.ofString "")]) hl1)
  have sB := sA.trans (same_new (o := .lst (((cod L).map sg).map V.str)) hl2)
  have e1 := (same_new (o := .lst (((cod L).map sg).map V.str)) hl2) l1 (.lst [.str (Str.ofString "")]) upd_same
  refine ⟨l1, l2, _, _, rfl, rfl, e1, upd_same, ?_, fun l3 hl3 => ?_⟩
  · rw [List.length_map, List.length_map, cl, List.length_singleton]
    omega
  rw [symL_map]
  have sC := sB.trans (same_new (o := .lst ((symL (cod L)).map V.str)) hl3)
  have hl := upd_same (H := upd (upd H2 l1 (.lst [.str (Str.ofString "")])) l2 (.lst (((cod L).map sg).map V.str))) (a := l3) (o := .lst ((symL (cod L)).map V.str))
  generalize upd (upd (upd H2 l1 (.lst [.str (Str.ofString "")])) l2 (.lst (((cod L).map sg).map V.str))) l3 (.lst ((symL (cod L)).map V.str)) = H3 at sC hl ⊢
  clear s1 s2 s3 sA sB e1 hl1 hl2 hl3
  generalize hcs : cod L = cs at *
  have hx3 := sC _ _ hx
  have hd3 := sC _ _ hd
  refine ⟨⟨_, rfl⟩, ?_⟩
  refine ⟨_, rfl, _, l3, _, rfl, rfl, .inl (SqL.of hl), ?_, ?_⟩
  · have e0 : (Str.ofString "").length = 0 := by decide +kernel
    have h1 : ((symL cs).map (·.length)).sum ≤ ((symL cs).map (·.length)).length * 1 := sum_le fun n hn => by
      obtain ⟨y, hy, rfl⟩ := List.mem_map.mp hn
      exact (sym_tx a1 hy).len
    rw [List.length_map] at h1
    have := a1.lens
    rw [e0]
    omega
  refine ⟨_, rfl, x, C, dx, [], rfl, hx3, TC.cl, TC.nA, by decide, ?_⟩
  have ej : Txt.join (Str.ofString "") (symL cs) = alph cs := join_sym cs
  rw [ej]
  -- all but x stays
  have kx : ∀ {H4 : Hp} {u w : HO}, (∀ b o, b ≠ x → H b = some o → H4 b = some o) → ∀ b o, b ≠ x → H b = some o → (upd H4 x w) b = some o := fun h b o hb e => by rw [upd_ne hb]; exact h b o hb e
  have k4 := kx (u := .ins C dx []) (w := .ins C dx [("_alphabet", .str (alph cs))]) (fun b o _ e => sC b o e)
  have hx4 : (upd H3 x (.ins C dx [("_alphabet", .str (alph cs))])) x = some (.ins C dx [("_alphabet", .str (alph cs))]) := upd_same
  have hl4 : (upd H3 x (.ins C dx [("_alphabet", .str (alph cs))])) l3 = some (.lst ((symL cs).map V.str)) := by
    rw [upd_ne (ne_of hl hx3 (fun z => nomatch z))]
    exact hl
  have hd4 : (upd H3 x (.ins C dx [("_alphabet", .str (alph cs))])) d = some (.dT kvs) := by
    rw [upd_ne (ne_of hd3 hx3 (fun z => nomatch z))]
    exact hd3
  show tSeq _ _ _ _ (upd H3 x (.ins C dx [("_alphabet", .str (alph cs))]))
  generalize upd H3 x (.ins C dx [("_alphabet", .str (alph cs))]) = H4 at k4 hx4 hl4 hd4 ⊢
  clear hx3 hd3 sC hl H3
  refine ⟨_, rfl, l3, rfl, ⟨_, SqL.of hl4⟩, fun D0 hD0 => ?_⟩
  have l7 := a1.lens
  have nd := a1.nds
  have pp := prc_prc tb pc
  have val : ∀ X ∈ symL cs, ∀ Y ∈ symL cs, X ≠ Y → (valV kvs (kk X Y)).getD (oV c) = oV (prc kvs c X Y) := fun X hX Y hY ne => by
    unfold prc
    rw [if_neg ne]
    cases h : valV kvs (kk X Y) with
    | none => rfl
    | some v =>
      obtain ⟨_, _, _, _, _, _, a, rfl, pa⟩ := tb.2 _ _ (valV_mem h)
      show oV a = oV (vO (oV a))
      rw [vO_oV]
  have vself : ∀ X, oV (prc kvs c X X) = .int 0 := fun X => by
    unfold prc
    rw [if_pos rfl]
    rfl
  generalize prc kvs c = p at *
  generalize hD : symL cs = D at *
  have atD : ∀ {i : Nat} {x : V}, (D.map V.str)[i]? = some x → ∃ X, D[i]? = some X ∧ x = .str X := fun {i x} h => by
    rw [List.getElem?_map] at h
    cases e : D[i]? with
    | none => rw [e] at h; exact nomatch h
    | some X => rw [e] at h; exact ⟨X, rfl, (Option.some.inj h).symm⟩
  refine walk_W (L2.walk_list (xs := D.map V.str)) (fun i H' => PrP D D0 p i 0 H' ∧ Same H4 H') ?_ (fun i H' _ pv => SqL.of (pv.2 _ _ hl4)) ?_ ?_
  · exact ⟨⟨[], upd_same, by rw [prs_zero]; exact par_nil _⟩, upd_new hD0⟩
  · rintro i y H5 _ lt ⟨pv, s5⟩ ⟨rfl, hy⟩
    obtain ⟨X, hX, rfl⟩ := atD hy
    refine ⟨rfl, yes_go ?_⟩
    refine ⟨_, rfl, l3, rfl, ⟨_, SqL.of (s5 _ _ hl4)⟩, ?_⟩
    refine walk_W (L2.walk_list (xs := D.map V.str)) (fun j H' => PrP D D0 p i j H' ∧ Same H4 H') ⟨pv, s5⟩ (fun i H' _ pv => SqL.of (pv.2 _ _ hl4)) ?_ ?_
    · clear pv s5
      rintro j y H5 _ ltj ⟨⟨kv, q1, q2⟩, s5⟩ ⟨rfl, hy⟩
      obtain ⟨Y, hY, rfl⟩ := atD hy
      have xD : X ∈ D := List.mem_of_getElem? hX
      have yD : Y ∈ D := List.mem_of_getElem? hY
      rename_i H5
      refine ⟨rfl, yes_go ?_⟩
      refine ⟨_, rfl, _, rfl, by show 2 ≤ sizeLine; decide, fun b hb => ?_⟩
      have fin : ∀ H6, Same (upd H5 b (.tup [.str X, .str Y])) H6 → ∃ kvs k b', V.ref b = .ref b' ∧ H6 D0 = some (.dT kvs) ∧ H6 b' = some (.tup (k.map kV)) ∧ kvs.length < sizeLine ∧
          (fun H' => PrP D D0 p i (j + 1) H' ∧ Same H4 H') (upd H6 D0 (.dT (putK kvs k (oV (p X Y))))) := by
        intro H6 s6
        have q1' := s6 _ _ (same_new (o := .tup [.str X, .str Y]) hb _ _ q1)
        refine ⟨kv, kk X Y, b, rfl, q1', s6 _ _ upd_same, ?_, ?_, ?_⟩
        · have := q2.len
          have := prs_len l7 i j (by rw [List.length_map] at lt; omega)
          omega
        · refine ⟨_, upd_same, ?_⟩
          rw [prs_col hX hY]
          exact (q2.put X Y (oV (p X Y))).congr fun q hq => put_self (fun x y => oV (p x y)) X Y q.1 q.2
        · intro c o hc
          rw [upd_ne (ne_of_none hc hD0)]
          exact s6 _ _ (same_new (o := .tup [.str X, .str Y]) hb _ _ (s5 c o hc))
      refine ⟨_, rfl, _, rfl, rfl, _, rfl, ?_⟩
      refine iteB (fun e => ?_) (fun e => ?_)
      · have e : X = Y := by injection (of_decide_eq_true e)
        subst e
        have f := fin _ (Same.refl _)
        rw [vself X] at f
        exact f
      · have e : X ≠ Y := fun z => of_decide_eq_false e (by rw [z])
        have hd5 := s5 _ _ hd4
        have hd6 := same_new (o := .tup [.str X, .str Y]) hb _ _ hd5
        refine ⟨_, rfl, d, rfl, .inr ⟨kvs, .inl hd6⟩, _, rfl, _, rfl, by show 2 ≤ sizeLine; decide, fun b2 hb2 => ?_⟩
        have s7 := same_new (o := .tup [.str X, .str Y]) hb2
        refine ⟨_, rfl, _, DGet.t (k := kk X Y) (s7 _ _ hd6) upd_same, ?_⟩
        rw [val X xD Y yD e]
        exact fin _ s7
    · rintro H6 ⟨pv, s6⟩
      rw [List.length_map] at pv
      refine ⟨?_, s6⟩
      unfold PrP at pv ⊢
      rw [prs_row (by rw [List.length_map] at lt; exact lt)] at pv
      exact pv
  rintro H5 ⟨⟨kv, q1, q2⟩, s5⟩
  rw [List.length_map] at q2
  subst hD
  have hx5 := s5 _ _ hx4
  refine ⟨_, rfl, x, C, dx, _, rfl, hx5, TC.cl, TC.nP, (by show (1 : Nat) < 1000; decide), ?_⟩
  have k5 := kx (u := .ins C dx []) (w := .ins C dx [("_alphabet", .str (alph cs)), ("_prices", .ref D0)]) (fun b o hb e => s5 _ _ (k4 b o hb e))
  have hx6 : (upd H5 x (.ins C dx [("_alphabet", .str (alph cs)), ("_prices", .ref D0)])) x = some (.ins C dx [("_alphabet", .str (alph cs)), ("_prices", .ref D0)]) := upd_same
  have hl6 : (upd H5 x (.ins C dx [("_alphabet", .str (alph cs)), ("_prices", .ref D0)])) l3 = some (.lst ((symL cs).map V.str)) := by
    rw [upd_ne (ne_of (s5 _ _ hl4) hx5 (fun z => nomatch z))]
    exact s5 _ _ hl4
  have f0 : DFn (upd H5 x (.ins C dx [("_alphabet", .str (alph cs)), ("_prices", .ref D0)])) D0 (symL cs) p := ⟨kv, by rw [upd_ne (ne_of q1 hx5 (fun z => nomatch z))]; exact q1, q2.dic l7⟩
  show tSeq _ _ _ _ (upd H5 x (.ins C dx [("_alphabet", .str (alph cs)), ("_prices", .ref D0)]))
  generalize upd H5 x (.ins C dx [("_alphabet", .str (alph cs)), ("_prices", .ref D0)]) = H6 at k5 hx6 hl6 f0 ⊢
  clear q1 q2 kv hx5 hx4 hl4 hd4 k4 hD0 s5 val atD vself kx
  refine ⟨_, rfl, _, rfl, x, C, dx, _, _, rfl, hx6, TC.cl, TC.nP, rfl, l3, D0, cs, p, rfl, a1, hl6, f0, pp, fun t d1 d2 H7 s7 ht f1 c1 => ?_⟩
  refine ⟨t, _, rfl, SqT.of ht, rfl, _, _, rfl, _, _, rfl, rfl, ?_⟩
  refine ⟨_, rfl, _, rfl, x, C, dx, _, rfl, s7 _ _ hx6, TC.cl, TC.nC, (by show (2 : Nat) < 1000; decide), ?_⟩
  refine ⟨_, rfl, _, rfl, x, C, dx, _, rfl, upd_same, TC.cl, TC.nH, (by show (3 : Nat) < 1000; decide), ?_⟩
  rw [upd_upd]
  show tLock _ _ _ (upd H7 x (.ins C dx [("_alphabet", .str (alph cs)), ("_prices", .ref D0), ("_costs", .ref d1), ("_chains", .ref d2)]))
  have hx7 := s7 _ _ hx6
  have k8 : ∀ b o, b ≠ x → H b = some o → (upd H7 x (.ins C dx [("_alphabet", .str (alph cs)), ("_prices", .ref D0), ("_costs", .ref d1), ("_chains", .ref d2)])) b = some o := fun b o hb e => by
    rw [upd_ne hb]
    exact s7 _ _ (k5 b o hb e)
  have hx8 : (upd H7 x (.ins C dx [("_alphabet", .str (alph cs)), ("_prices", .ref D0), ("_costs", .ref d1), ("_chains", .ref d2)])) x = some (.ins C dx [("_alphabet", .str (alph cs)), ("_prices", .ref D0), ("_costs", .ref d1), ("_chains", .ref d2)]) := upd_same
  have g0 := (f0.same s7).besideI (o := .ins C dx [("_alphabet", .str (alph cs)), ("_prices", .ref D0), ("_costs", .ref d1), ("_chains", .ref d2)]) hx7
  have g1 := f1.besideI (o := .ins C dx [("_alphabet", .str (alph cs)), ("_prices", .ref D0), ("_costs", .ref d1), ("_chains", .ref d2)]) hx7
  have g2 := c1.besideI (o := .ins C dx [("_alphabet", .str (alph cs)), ("_prices", .ref D0), ("_costs", .ref d1), ("_chains", .ref d2)]) hx7
  generalize upd H7 x (.ins C dx [("_alphabet", .str (alph cs)), ("_prices", .ref D0), ("_costs", .ref d1), ("_chains", .ref d2)]) = H8 at k8 hx8 g0 g1 g2 ⊢
  clear hx7 hx6 hl6 f0 ht f1 c1 k5 s7 H7 H6
  have J := run_jn nd (symL cs) [] (p, c0) (fun z hz => hz) (fun z hz => nomatch hz) (start_jn pp.di pp.nn)
  have di : ∀ z ∈ symL cs, spn cs p z z = some 0 := fun z hz => by
    have := J.g.di z hz
    rw [runC_fst] at this
    exact this
  change DFn H8 d1 (symL cs) (spn cs p) at g1
  generalize hF : spn cs p = F at g1 di
  obtain ⟨kv, hd1, dic⟩ := g1
  refine ⟨d1, .dT kv, hd1, trivial, fun od => ?_⟩
  refine ⟨_, rfl, d1, od, rfl, .inr ⟨kv, upd_same, fun E1 hE1 => ?_⟩⟩
  have ne1 : E1 ≠ d1 := fun e => by rw [e, upd_same] at hE1; exact nomatch hE1
  have nE : H8 E1 = none := by rw [upd_ne ne1] at hE1; exact hE1
  refine walk_W (L2.walk_keysT) (fun i H' => (∃ ns : List Int, H' E1 = some (.lst (ns.map V.int)) ∧ ns.length ≤ i ∧ (∀ n ∈ ns, ∃ x ∈ symL cs, ∃ y ∈ symL cs, F x y = some n) ∧ ∀ q ∈ kv.take i, ∀ x ∈ symL cs, ∀ y ∈ symL cs, q.1 = kk x y → ∀ w, F x y = some w → w ∈ ns) ∧
    H' d1 = some (.frz od (.dT kv)) ∧ ∀ b o, b ≠ d1 → H8 b = some o → H' b = some o) ?_ (fun i H' _ pv => pv.2.1) ?_ ?_
  · refine ⟨⟨[], upd_same, Nat.le_refl _, (fun n h => nomatch h), (fun q h => nomatch h)⟩, by rw [upd_ne ne1.symm]; exact upd_same, fun b o hb e => ?_⟩
    rw [upd_ne (ne_of_none e nE), upd_ne hb]
    exact e
  · rintro i y H1 H2 lt ⟨⟨ns, p1, p2, p3, p4⟩, p5, p6⟩ ⟨rfl, k, v, b, hi, rfl, hb⟩
    obtain ⟨X, hX, Y, hY, ek⟩ := dic.key _ (List.mem_of_getElem? hi)
    change k = kk X Y at ek
    subst ek
    have g : DGet H2 d1 (.ref b) (some (oV (F X Y))) := by
      have := DGet.tz (k := kk X Y) p5 hb
      rw [dic.val X hX Y hY] at this
      exact this
    refine ⟨rfl, ?_⟩
    refine ⟨_, rfl, _, rfl, d1, _, rfl, g, rfl, _, rfl, ?_⟩
    rw [oV_non]
    have tk : ∀ {q : List Key × V}, q ∈ kv.take (i + 1) → q ∈ kv.take i ∨ q.1 = kk X Y := fun {q} h => by
      rw [List.take_add_one, hi] at h
      rcases List.mem_append.mp h with h | h
      · exact .inl h
      · exact .inr (by rw [List.mem_singleton.mp (show q ∈ [(kk X Y, v)] from h)])
    cases e : F X Y with
    | none =>
      refine iteF ⟨⟨ns, p1, by omega, p3, fun q hq a ha b hb ek w ew => ?_⟩, p5, p6⟩
      rcases tk hq with h | h
      · exact p4 q h a ha b hb ek w ew
      · obtain ⟨r1, r2⟩ := kk_inj (ek.symm.trans h)
        rw [r1, r2, e] at ew
        exact nomatch ew
    | some w =>
      rw [e] at g
      refine iteT ⟨_, rfl, _, rfl, d1, _, rfl, g, ?_⟩
      refine ⟨_, p1, ?_, ?_, ?_, fun b o hb he => ?_⟩
      · have := dic.len
        rw [List.length_map]
        omega
      · refine ⟨ns ++ [w], ?_, ?_, ?_, ?_⟩
        · rw [upd_same, List.map_append]
          rfl
        · rw [List.length_append, List.length_singleton]
          omega
        · intro n hn
          rcases List.mem_append.mp hn with h | h
          · exact p3 n h
          · rw [List.mem_singleton.mp h]
            exact ⟨X, hX, Y, hY, e⟩
        · intro q hq a ha b hb ek u eu
          rcases tk hq with h | h
          · exact List.mem_append_left _ (p4 q h a ha b hb ek u eu)
          · obtain ⟨r1, r2⟩ := kk_inj (ek.symm.trans h)
            rw [r1, r2, e] at eu
            cases eu
            exact List.mem_append_right _ (.head _)
      · rw [upd_ne ne1.symm]
        exact p5
      · rw [upd_ne (ne_of_none he nE)]
        exact p6 b o hb he
  rintro H9 ⟨⟨ns, p1, p2, p3, p4⟩, p5, p6⟩
  rw [List.take_length] at p4
  have all : ∀ x ∈ symL cs, ∀ y ∈ symL cs, ∀ w, F x y = some w → w ∈ ns := fun a ha b hb w ew =>
    p4 _ (valV_mem (dic.val a ha b hb)) a ha b hb rfl w ew
  have e0 : Str.empty ∈ symL cs := .head _
  have in0 := all _ e0 _ e0 0 (di _ e0)
  refine ⟨E1, ns, rfl, SqL.of p1, List.length_pos_of_mem in0, fun m hm hle => ?_⟩
  have nx1 : x ≠ d1 := ne_of hx8 hd1 (fun z => nomatch z)
  have hx9 := p6 _ _ nx1 hx8
  refine ⟨_, rfl, x, C, dx, _, rfl, hx9, TC.cl, TC.nG, (by show (4 : Nat) < 1000; decide), ?_, ?_⟩
  · rw [upd_ne nx1.symm]
    exact p5
  show Q .non (upd (upd H9 x (.ins C dx [("_alphabet", .str (alph cs)), ("_prices", .ref D0), ("_costs", .ref d1), ("_chains", .ref d2), ("_highest", .int m)])) d1 (.dT kv))
  have k9 : ∀ b o, b ≠ x → H8 b = some o → (upd (upd H9 x (.ins C dx [("_alphabet", .str (alph cs)), ("_prices", .ref D0), ("_costs", .ref d1), ("_chains", .ref d2), ("_highest", .int m)])) d1 (.dT kv)) b = some o := fun b o hb he => by
    by_cases hb1 : b = d1
    · subst hb1
      rw [upd_same, ← he]
      exact hd1.symm
    · rw [upd_ne hb1, upd_ne hb]
      exact p6 b o hb1 he
  refine q _ (fun b o hb he => k9 b o hb (k8 b o hb he)) ?_
  refine ⟨x, dx, D0, d1, d2, m, rfl, by rw [upd_ne nx1]; exact upd_same, g0.butI hx8 k9, ⟨kv, upd_same, by rw [hF]; exact dic⟩, g2.butI hx8 k9, ?_⟩
  rw [hF]
  exact ⟨p3 m hm, fun a ha b hb w ew => hle w (all a ha b hb w ew)⟩
end
end KC

namespace KC
open PySem L2 Gd Fw KM
def spAlpha (C : Addr) : Sp := fun vs H Q _ => ∃ v cs p, vs = [v] ∧ PrAt C H v cs p ∧ Q (.str (alph cs)) H
def spReq (C : Addr) : Sp := fun vs H Q _ => ∃ v x y cs p, vs = [v, .str x, .str y] ∧ PrAt C H v cs p ∧ Alp cs ∧ x ∈ symL cs ∧ y ∈ symL cs ∧ ∀ H', Same H H' → Q .non H'
def spCost (C : Addr) : Sp := fun vs H Q _ => ∃ v x y cs p, vs = [v, .str x, .str y] ∧ PrAt C H v cs p ∧ Alp cs ∧ x ∈ symL cs ∧ y ∈ symL cs ∧ ∀ H', Same H H' → Q (oV (spn cs p x y)) H'
section
variable {P : Program} {w : World} {K : PySem.W.Frag} {mg : Str → Option Value} {base : Heap}
abbrev sPrices_alphabet : Stmt := inClass (top 24) 1
theorem scPrices_alphabet : FnScope ["self"] ["self"] (defScope sPrices_alphabet) := ⟨rfl, rfl, rfl, by decide +kernel, rfl, by decide +kernel, by decide +kernel⟩
theorem ok_alpha {C f : Addr} {fd : FuncData} (F : Fun K "alphabet" "Prices.alphabet" sPrices_alphabet f fd) (TC : TxC K mg C) : FnG P w K mg base CX0 1 f fd ["self"] (spAlpha C) := by
  refine okG F scPrices_alphabet (fun vs H Q E h => ?_) (fun cdv A outer s H vs Q E hc hr h => ?_)
  · obtain ⟨v, cs, p, rfl, _⟩ := h
    rfl
  obtain ⟨v, cs, p, rfl, ⟨a, dx, d0, d1, d2, m, rfl, ha, _⟩, q⟩ := h
  refine ⟨_, (pss_one (ps_ret (pe_fld (pv 0) rfl))), ?_⟩
  exact ⟨_, rfl, a, C, dx, _, _, rfl, ha, TC.cl, TC.nA, rfl, q⟩
abbrev sPrices__require_symbols : Stmt := inClass (top 24) 5
theorem scPrices__require_symbols : FnScope ["self", "source", "target", "symbol"] ["self", "source", "target"] (defScope sPrices__require_symbols) := ⟨rfl, rfl, rfl, by decide +kernel, rfl, by decide +kernel, by decide +kernel⟩
theorem ok_req {C f f1 : Addr} {fd fd1 : FuncData} (F : Fun K "_require_symbols" "Prices._require_symbols" sPrices__require_symbols f fd) (TC : TxC K mg C)
    (D_is_symbol : Df P w K mg base CX0 2 "is_symbol" f1 fd1 ["value", "alphabet"] (spSym K)) : FnG P w K mg base CX0 3 f fd ["self", "source", "target"] (spReq C) := by
  refine okG F scPrices__require_symbols (fun vs H Q E h => ?_) (fun cdv A outer s H vs Q E hc hr h => ?_)
  · obtain ⟨v, x, y, cs, p, rfl, _⟩ := h
    rfl
  obtain ⟨v, x, y, cs, p, rfl, ⟨a, dx, d0, d1, d2, m, rfl, ha, _⟩, al, hx, hy, q⟩ := h
  refine ⟨_, (pss_one (ps_for (passes_of rfl) rfl (pi_tup (pe_tup (pa_cons (pv 1) (pa_cons (pv 2) pa_nil)))) (pg_name (i := 3) scPrices__require_symbols.nd rfl (Or.inl rfl))
  (pss_one (ps_if (pt_not (pt_val (pe_d D_is_symbol hc (hr.mono (by omega)) (by rfl) (fun _ => passN) (pa_cons (pv 3) (pa_cons (pe_fld (pv 0) rfl) pa_nil)))))
  (pss_one ps_never) pss_nil)))), ?_⟩
  refine ⟨_, rfl, _, rfl, by show 2 ≤ sizeLine; decide, fun t ht => ?_⟩
  have st := same_new (o := .tup [.str x, .str y]) ht
  refine ⟨t, rfl, ⟨_, SqT.of upd_same⟩, ?_⟩
  refine L2.for_it (L2.walk_tup (xs := [V.str x, .str y])) (fun i σ H' => (∃ z, σ = [some (V.ref a), some (.str x), some (.str y), z]) ∧ Same (upd H t (.tup [.str x, .str y])) H') ⟨⟨_, rfl⟩, Same.refl _⟩ (fun i σ H' _ pv => SqT.of (pv.2 _ _ upd_same)) ?_ ?_
  · rintro i v σ H3 _ lt ⟨⟨z, rfl⟩, s3⟩ ⟨rfl, hv⟩
    rename_i H3
    obtain ⟨u, rfl, hu⟩ : ∃ u, v = .str u ∧ u ∈ symL cs := by
      match i, hv with
      | 0, hv => exact ⟨x, (Option.some.inj hv).symm, hx⟩
      | 1, hv => exact ⟨y, (Option.some.inj hv).symm, hy⟩
    have ha3 := s3 _ _ (st _ _ ha)
    refine ⟨_, rfl, _, rfl, a, C, dx, _, _, rfl, ha3, TC.cl, TC.nA, rfl, ?_⟩
    refine ⟨.str u, cs, rfl, al, .str u ((sym_tx al hu).mono (by decide)), fun H4 s4 => ⟨_, rfl, ?_⟩⟩
    have e : isSym cs (.str u) = true := decide_eq_true hu
    rw [e]
    exact iteF ⟨⟨_, rfl⟩, s3.trans s4⟩
  · rintro σ H3 ⟨⟨z, rfl⟩, s3⟩
    exact q _ (st.trans s3)
abbrev sPrices_cost : Stmt := inClass (top 24) 3
theorem scPrices_cost : FnScope ["self", "source", "target"] ["self", "source", "target"] (defScope sPrices_cost) := ⟨rfl, rfl, rfl, by decide +kernel, rfl, by decide +kernel, by decide +kernel⟩
theorem ok_cost {C f f1 : Addr} {fd fd1 : FuncData} (F : Fun K "cost" "Prices.cost" sPrices_cost f fd) (TC : TxC K mg C)
    (D_Prices__require_symbols : Dm P w K mg base CX0 3 C "_require_symbols" f1 fd1 ["self", "source", "target"] (spReq C)) : FnG P w K mg base CX0 4 f fd ["self", "source", "target"] (spCost C) := by
  refine okG F scPrices_cost (fun vs H Q E h => ?_) (fun cdv A outer s H vs Q E hc hr h => ?_)
  · obtain ⟨v, x, y, cs, p, rfl, _⟩ := h
    rfl
  obtain ⟨v, x, y, cs, p, rfl, pr, al, hx, hy, q⟩ := h
  obtain ⟨a, dx, d0, d1, d2, m, rfl, ha, f0, f1', _⟩ := id pr
  refine ⟨_, (pss_cons (ps_expr (pe_mt D_Prices__require_symbols hc (hr.mono (by omega)) (fun _ => passN) (pv 0) (pa_cons (pv 1) (pa_cons (pv 2) pa_nil))))
 (pss_one (ps_ret (pe_dget (hu_of hr) (pe_fld (pv 0) rfl) (pe_tup (pa_cons (pv 1) (pa_cons (pv 2) pa_nil))) (fun _ _ => rfl))))), ?_⟩
  refine ⟨_, rfl, a, dx, _, rfl, ha, rfl, _, rfl, _, rfl, _, x, y, cs, p, rfl, pr, al, hx, hy, fun H1 s1 => ?_⟩
  refine ⟨_, rfl, a, C, dx, _, _, rfl, s1 _ _ ha, TC.cl, TC.nC, rfl, _, rfl, _, rfl, by show 2 ≤ sizeLine; decide, fun t ht => ?_⟩
  have st := same_new (o := .tup [.str x, .str y]) ht
  exact ⟨d1, _, rfl, ((f1'.same s1).same st).get hx hy upd_same, q _ (s1.trans st)⟩
end
end KC

namespace KC
open PySem L2 Gd Fw KM
/-- the letters that are drawn from -/
def poolC : List Nat := ("abcpqxyz" : String).toList.map Char.toNat
/-- drawn letters -/
structure Drawn (m : Nat) (L : Str) : Prop where
  pool : ∀ c ∈ L.cps.toList, c ∈ poolC
  nd : L.cps.toList.Nodup
  pos : 1 ≤ L.length
  len : L.length ≤ m
theorem pool_low : ∀ c ∈ poolC, low c = true := by decide +kernel
theorem Drawn.lets {m : Nat} {L : Str} (h : Drawn m L) (hm : m ≤ 6) : Lets L := ⟨fun c hc => pool_low c (h.pool c hc), h.nd, h.pos, Nat.le_trans h.len hm⟩
theorem erase_map {α β : Type} (f : α → β) : ∀ (l : List α) (k : Nat), (l.map f).eraseIdx k = (l.eraseIdx k).map f
  | [], k => rfl
  | y :: l, 0 => rfl
  | y :: l, k + 1 => congrArg (f y :: ·) (erase_map f l k)
theorem erase_perm {α : Type} : ∀ {l : List α} {k : Nat} {x : α}, l[k]? = some x → (x :: l.eraseIdx k).Perm l
  | [], k, x, h => nomatch h
  | y :: l, 0, x, h => by
    cases Option.some.inj h
    exact .refl _
  | y :: l, k + 1, x, h => by
    have e : l[k]? = some x := h
    exact (List.Perm.swap y x _).trans ((erase_perm e).cons y)
def spLets : Sp := fun vs H Q _ => ∃ (p : Addr) (m : Nat), vs = [.ref p, .int (m : Nat)] ∧ BoxAt H p ∧ 1 ≤ m ∧ m ≤ 6 ∧ ∀ (L : Str) (H' : Hp), Drawn m L → Kept H H' p → Q (.str L) H'
section
variable {P : Program} {w : World} {K : PySem.W.Frag} {mg : Str → Option Value} {base : Heap}
abbrev s_law_some_letters : Stmt := top 48
theorem sc_law_some_letters : FnScope ["_law_box_here", "_law_most", "_law_pool", "_law_found", "_law_turn"] ["_law_box_here", "_law_most"] (defScope s_law_some_letters) := ⟨rfl, rfl, rfl, by decide +kernel, rfl, by decide +kernel, by decide +kernel⟩
theorem ok_lets {f f1 : Addr} {fd fd1 : FuncData} (F : Fun K "_law_some_letters" "_law_some_letters" s_law_some_letters f fd) (T : Txt mg base)
    (D__law_take : Df P w K mg base CX0 1 "_law_take" f1 fd1 ["_law_box_here", "_law_size"] spTake) : FnG P w K mg base CX0 2 f fd ["_law_box_here", "_law_most"] spLets := by
  refine okG F sc_law_some_letters (fun vs H Q E h => ?_) (fun cdv A outer s H vs Q E hc hr h => ?_)
  · obtain ⟨p, m, rfl, _⟩ := h
    rfl
  obtain ⟨p, m, rfl, hb, m1, m6, q⟩ := h
  refine ⟨_, (pss_cons (ps_par (i := 2) (j := 3) (by rfl) sc_law_some_letters.nd rfl rfl (by decide) rfl rfl (pa_cons (pe_callTy (call_listX rfl) (by rfl) T.z_list (by decide +kernel) (pa_cons pe_str pa_nil)) (pa_cons pe_str pa_nil)) (by rfl))
 (pss_cons (ps_for (passes_of rfl) rfl (pi_range1 rfl T.z_range (pa_cons (pe_op op_add pe_int (pe_d D__law_take hc (hr.mono (by omega)) (by rfl) (fun _ => passN) (pa_cons (pv 0) (pa_cons (pv 1) pa_nil)))) pa_nil)) (pg_name (i := 4) sc_law_some_letters.nd rfl (Or.inl rfl))
  (pss_one (ps_set (i := 3) sc_law_some_letters.nd rfl (Or.inl rfl) (pe_op op_add_str (pv 3) (pe_bm PySem.F.plainAttrs_list PySem.F.slot_list_pop PySem.F.type_list_pop mt_popAt (pv 2) (pa_cons (pe_d D__law_take hc (hr.mono (by omega)) (by rfl) (fun _ => passN) (pa_cons (pv 0) (pa_cons (pe_callB call_len_seq (by rfl) T.z_len (by decide +kernel) (pa_cons (pv 2) pa_nil)) pa_nil))) pa_nil))))))
 (pss_one (ps_ret (pv 3))))), ?_⟩
  have sz := sizeLine_eq
  have len23 : poolC.length = 8 := by decide +kernel
  have es : signs (Str.ofString "abcpqxyz") = poolC.map sg := by
    rw [signs_eq]
    have : (Str.ofString "abcpqxyz").cps.toList = poolC := by decide +kernel
    rw [this]
  refine ⟨_, rfl, by decide +kernel, fun l hl => ?_⟩
  rw [es]
  refine ⟨_, _, rfl, ?_⟩
  have hlp : l ≠ p := Kept.ne hb hl
  have k1 : Kept H (upd H l (.lst ((poolC.map sg).map V.str))) p := (Kept.refl hb).put hb hl
  refine ⟨_, rfl, _, rfl, p, _, rfl, k1.box, by omega, by omega, fun d H1 d0 d1 t1 => ?_⟩
  have k2 := k1.turn t1
  have hl1 : H1 l = some (.lst ((poolC.map sg).map V.str)) := t1.at hlp upd_same
  refine ⟨_, _, rfl, rfl, 1 + d, rfl, by omega, by omega, ?_⟩
  refine L2.for_it (L2.walk_range (lo := 0) (n := (1 + d).toNat)) (fun i σ H' => ∃ (L : Str) (ps : List Nat) (o : Option V), σ = [some (V.ref p), some (.int m), some (.ref l), some (.str L), o] ∧ H' l = some (.lst ((ps.map sg).map V.str)) ∧ (L.cps.toList ++ ps).Perm poolC ∧ L.cps.toList.length = i ∧ Kept H H' p)
    ⟨_, poolC, _, rfl, hl1, .refl _, rfl, k2⟩ (fun _ _ _ _ _ => trivial) ?_ ?_
  · rintro i v σ H2 _ lt ⟨L, ps, o, rfl, h2, pm, li, k3⟩ ⟨rfl, rfl⟩
    rename_i H2
    have lp := pm.length_eq
    rw [List.length_append, len23, li] at lp
    refine ⟨_, rfl, _, rfl, .inl ⟨rfl, _, SqL.of h2⟩, ?_⟩
    refine ⟨_, rfl, _, rfl, l, _, rfl, .inl (SqL.of h2), p, _, rfl, k3.box, ?_, ?_, fun e H3 e0 e1 t3 => ?_⟩
    · rw [List.length_map, List.length_map]
      omega
    · rw [List.length_map, List.length_map]
      omega
    rw [List.length_map, List.length_map] at e1
    obtain ⟨k, rfl⟩ := Int.eq_ofNat_of_zero_le e0
    have hk : k < ps.length := by omega
    have h3 : H3 l = some (.lst ((ps.map sg).map V.str)) := t3.at hlp h2
    have ek : ps[k]? = some ps[k] := List.getElem?_eq_getElem hk
    generalize ps[k] = c at ek
    refine ⟨l, _, _, k, .str (sg c), rfl, rfl, h3, by omega, by omega, ?_, ?_, ?_⟩
    · rw [List.length_map, List.length_map]
      unfold seqIndex?
      have ng : ¬ (k : Int) < 0 := by omega
      simp [ng, hk]
    · rw [List.getElem?_map, List.getElem?_map, ek]
      rfl
    have el : L.length = i := by rw [len_list]; exact li
    refine ⟨_, _, rfl, rfl, by show L.length + 1 ≤ sizeLine; omega, ?_⟩
    refine ⟨L ++ sg c, ps.eraseIdx k, _, rfl, ?_, ?_, ?_, ?_⟩
    · rw [upd_same, erase_map, erase_map]
    · rw [app_list, sg_list, List.append_assoc]
      exact ((erase_perm ek).append_left _).trans pm
    · rw [app_list, List.length_append, li]
      rfl
    · exact ⟨BoxAt.keep_ne (k3.turn t3).box hlp.symm, fun q o hq hh => by rw [upd_ne (ne_of_none hh hl)]; exact (k3.turn t3).2 q o hq hh⟩
  · rintro σ H2 ⟨L, ps, o, rfl, h2, pm, li, k3⟩
    refine ⟨_, rfl, q L H2 ?_ k3⟩
    refine ⟨fun c hc => pm.mem_iff.mp (List.mem_append_left _ hc), ?_, ?_, ?_⟩
    · have nd : poolC.Nodup := by decide +kernel
      exact (List.nodup_append.mp (pm.symm.nodup nd)).1
    · rw [len_list]
      omega
    · rw [len_list]
      omega
end
end KC

namespace KC
open PySem L2 Gd Fw KM
inductive PrsAt (H : Hp) : List V → List (Str × Str) → Prop
  | nil : PrsAt H [] []
  | cons {a : Addr} {x y : Str} {vs : List V} {l : List (Str × Str)} : H a = some (.tup [.str x, .str y]) → PrsAt H vs l → PrsAt H (.ref a :: vs) ((x, y) :: l)
theorem PrsAt.same {H H' : Hp} (e : Same H H') {vs : List V} {l : List (Str × Str)} (h : PrsAt H vs l) : PrsAt H' vs l := by
  induction h with
  | nil => exact .nil
  | cons h _ ih => exact .cons (e _ _ h) ih
theorem PrsAt.len {H : Hp} {vs : List V} {l : List (Str × Str)} (h : PrsAt H vs l) : vs.length = l.length := by
  induction h with
  | nil => rfl
  | cons _ _ ih => rw [List.length_cons, List.length_cons, ih]
theorem PrsAt.at {H : Hp} {vs : List V} {l : List (Str × Str)} (h : PrsAt H vs l) : ∀ {i : Nat} {v : V}, vs[i]? = some v → ∃ a x y, v = .ref a ∧ H a = some (.tup [.str x, .str y]) ∧ l[i]? = some (x, y) := by
  induction h with
  | nil => exact fun e => nomatch e
  | cons h _ ih =>
    intro i v e
    cases i with
    | zero => exact ⟨_, _, _, (Option.some.inj e).symm, h, rfl⟩
    | succ i => exact ih e
/-- pairs of a script over the symbols -/
def PrsOk (cs : List Nat) (l : List (Str × Str)) : Prop := l.length ≤ 100 ∧ ∀ q ∈ l, q.1 ∈ symL cs ∧ q.2 ∈ symL cs ∧ ¬ (q.1 = Str.empty ∧ q.2 = Str.empty)
/-- the pairs of different symbols -/
def prsL (D : List Str) : List (Str × Str) := D.flatMap fun x => (D.filter fun y => decide (y ≠ x)).map fun y => (x, y)
theorem prsL_mem {D : List Str} {q : Str × Str} : q ∈ prsL D ↔ q.1 ∈ D ∧ q.2 ∈ D ∧ q.1 ≠ q.2 := by
  unfold prsL
  rw [List.mem_flatMap]
  constructor
  · rintro ⟨x, hx, h⟩
    obtain ⟨y, hy, rfl⟩ := List.mem_map.mp h
    obtain ⟨h1, h2⟩ := List.mem_filter.mp hy
    exact ⟨hx, h1, fun e => of_decide_eq_true h2 e.symm⟩
  · rintro ⟨h1, h2, h3⟩
    exact ⟨q.1, h1, List.mem_map.mpr ⟨q.2, List.mem_filter.mpr ⟨h2, decide_eq_true fun e => h3 e.symm⟩, rfl⟩⟩
theorem prsL_len {D : List Str} (h : D.length ≤ 7) : (prsL D).length ≤ 49 := by
  unfold prsL
  rw [List.length_flatMap]
  have a : (D.map fun x => ((D.filter fun y => decide (y ≠ x)).map fun y => (x, y)).length).sum ≤ (D.map fun x => ((D.filter fun y => decide (y ≠ x)).map fun y => (x, y)).length).length * 7 := sum_le fun n hn => by
    obtain ⟨x, _, rfl⟩ := List.mem_map.mp hn
    rw [List.length_map]
    exact Nat.le_trans (List.length_filter_le _ _) h
  rw [List.length_map] at a
  omega
/-- a test that leaves all as it is, whatever its answer -/
abbrev AnyT (t : TT) (σ : L2.St) (H : Hp) : Prop := ∀ Q : Bool → Hp → Prop, (∀ b, Q b H) → t σ H Q
theorem any_or {t u : TT} {σ : L2.St} {H : Hp} (a : AnyT t σ H) (b : AnyT u σ H) : AnyT (tOr t u) σ H := fun Q h => a _ fun c => by
  by_cases e : c = true
  · rw [if_pos e]
    exact h true
  · rw [if_neg e]
    exact b Q h
theorem any_and {t u : TT} {σ : L2.St} {H : Hp} (a : AnyT t σ H) (b : AnyT u σ H) : AnyT (tAnd t u) σ H := fun Q h => a _ fun c => by
  by_cases e : c = true
  · rw [if_pos e]
    exact b Q h
  · rw [if_neg e]
    exact h false
theorem any_if {t : TT} {s1 s2 : TS} {D : Ends} {σ : L2.St} {H : Hp} (a : AnyT t σ H) (h1 : s1 D σ H) (h2 : s2 D σ H) : tIfS t s1 s2 D σ H := a _ fun b => by
  by_cases e : b = true
  · rw [if_pos e]
    exact h1
  · rw [if_neg e]
    exact h2
/-- entries of a price table -/
def TabK (D : List Str) (kvs : List (List Key × V)) : Prop := ∀ k v, (k, v) ∈ kvs → ∃ x ∈ D, ∃ y ∈ D, x ≠ y ∧ k = kk x y ∧ ∃ a : Co, v = oV a ∧ Pr a
theorem TabK.put {D : List Str} {kvs : List (List Key × V)} {x y : Str} {c : Co} (t : TabK D kvs) (hx : x ∈ D) (hy : y ∈ D) (ne : x ≠ y) (pc : Pr c) : TabK D (putK kvs (kk x y) (oV c)) := fun k v h => by
  rcases put_mem h with e | h
  · cases e
    exact ⟨x, hx, y, hy, ne, rfl, c, rfl, pc⟩
  · exact t k v h
theorem pr_some {i : Int} (h0 : 0 ≤ i) (h9 : i ≤ 9) : Pr (some i) := fun j e => by
  cases e
  exact ⟨h0, h9⟩
theorem pr_none : Pr none := fun j e => nomatch e
def spPairs : Sp := fun vs H Q _ => ∃ L : Str, vs = [.str L] ∧ Lets L ∧ ∀ (D : Addr) (us : List V) (H' : Hp), Same H H' → H' D = some (.lst us) → PrsAt H' us (prsL (symL (cod L))) → Q (.ref D) H'
theorem PrsAt.app {H : Hp} {us vs : List V} {l m : List (Str × Str)} (h : PrsAt H us l) (k : PrsAt H vs m) : PrsAt H (us ++ vs) (l ++ m) := by
  induction h with
  | nil => exact k
  | cons h _ ih => exact .cons h ih
theorem PrsAt.upd {H : Hp} {us : List V} {l : List (Str × Str)} {a : Addr} {xs : List V} {o : HO} (h : PrsAt H us l) (ha : H a = some (.lst xs)) : PrsAt (L2.upd H a o) us l := by
  induction h with
  | nil => exact .nil
  | cons h _ ih => exact .cons (by rw [upd_ne (ne_of h ha (fun z => nomatch z))]; exact h) ih
section
variable {P : Program} {w : World} {K : PySem.W.Frag} {mg : Str → Option Value} {base : Heap}
abbrev s_law_pairs : Stmt := top 49
theorem sc_law_pairs : FnScope ["_law_letters", "_law_symbols", "_law_found", "_law_one", "_law_other"] ["_law_letters"] (defScope s_law_pairs) := ⟨rfl, rfl, rfl, by decide +kernel, rfl, by decide +kernel, by decide +kernel⟩
theorem ok_pairs {f : Addr} {fd : FuncData} (F : Fun K "_law_pairs" "_law_pairs" s_law_pairs f fd) (T : Txt mg base) : FnG P w K mg base CX0 1 f fd ["_law_letters"] spPairs := by
  refine okG F sc_law_pairs (fun vs H Q E h => ?_) (fun cdv A outer s H vs Q E hc hr h => ?_)
  · obtain ⟨L, rfl, _⟩ := h
    rfl
  obtain ⟨L, rfl, al, q⟩ := h
  refine ⟨_, (pss_cons (ps_set (i := 1) sc_law_pairs.nd rfl (Or.inl rfl) (pe_op op_cat (pe_lst (pa_cons pe_str pa_nil)) (pe_callB (cr_sortX rfl) (by rfl) T.z_sorted (by decide +kernel) (pa_cons (pv 0) pa_nil))))
 (pss_cons (ps_set (i := 2) sc_law_pairs.nd rfl (Or.inl rfl) (pe_lst pa_nil))
 (pss_cons (ps_for (passes_of rfl) rfl (pi_list (pv 1)) (pg_name (i := 3) sc_law_pairs.nd rfl (Or.inr rfl))
  (pss_one (ps_set (i := 2) sc_law_pairs.nd rfl (Or.inl rfl) (pe_op op_cat (pv 2) (pe_lc (own := [("_law_other", 4)]) (g := gName 4) rfl sc_law_pairs.nd (pi_list (pv 1)) (blkOk_by (N := ["_law_letters", "_law_symbols", "_law_found", "_law_one", "_law_other"]) (sc := defScope s_law_pairs) (by decide +kernel)) (fun _ _ _ _ _ => pg_name (i := 4) sc_law_pairs.nd rfl (Or.inl rfl)) (fun _ _ _ _ _ => (pts_one (pt_cmpR op_ne (pv 4) (pv 3) (nomark _)))) (fun _ _ _ _ _ => (pe_tup (pa_cons (pv 3) (pa_cons (pv 4) pa_nil)))))))))
 (pss_one (ps_ret (pv 2)))))), ?_⟩
  have sz := sizeLine_eq
  have ll := al.len
  have a1 := al.alp
  refine ⟨by show 1 ≤ sizeLine; decide, fun l1 hl1 => ?_⟩
  refine ⟨_, rfl, L, rfl, by omega, fun ys l2 perm srt hl2 => ?_⟩
  have ey := sorted_eq perm srt
  subst ey
  have cl := cod_len L
  have sA := same_new (o := .lst [.str (Str.ofString "")]) hl1
  have sB := sA.trans (same_new (o := .lst (((cod L).map sg).map V.str)) hl2)
  have e1 := (same_new (o := .lst (((cod L).map sg).map V.str)) hl2) l1 (.lst [.str (Str.ofString "")]) upd_same
  refine ⟨l1, l2, _, _, rfl, rfl, e1, upd_same, ?_, fun l3 hl3 => ?_⟩
  · rw [List.length_map, List.length_map, cl, List.length_singleton]
    omega
  rw [symL_map]
  have sC := sB.trans (same_new (o := .lst ((symL (cod L)).map V.str)) hl3)
  have hl := upd_same (H := upd (upd H l1 (.lst [.str (Str.ofString "")])) l2 (.lst (((cod L).map sg).map V.str))) (a := l3) (o := .lst ((symL (cod L)).map V.str))
  generalize upd (upd (upd H l1 (.lst [.str (Str.ofString "")])) l2 (.lst (((cod L).map sg).map V.str))) l3 (.lst ((symL (cod L)).map V.str)) = H3 at sC hl ⊢
  clear sA sB e1 hl1 hl2 hl3
  have l7 := a1.lens
  generalize symL (cod L) = D at *
  refine ⟨Nat.zero_le _, fun l4 hl4 => ?_⟩
  have sD := same_new (o := .lst []) hl4
  refine ⟨_, rfl, l3, rfl, ⟨_, SqL.of (sD _ _ hl)⟩, ?_⟩
  have atD : ∀ {i : Nat} {x : V}, (D.map V.str)[i]? = some x → ∃ X, D[i]? = some X ∧ x = .str X := fun {i x} h => by
    rw [List.getElem?_map] at h
    cases e : D[i]? with
    | none => rw [e] at h; exact nomatch h
    | some X => rw [e] at h; exact ⟨X, rfl, (Option.some.inj h).symm⟩
  refine L2.for_it (L2.walk_list (xs := D.map V.str)) (fun i σ H' => (∃ (o x : Option V) (e : Addr) (us : List V), σ = [some (V.str L), some (.ref l3), some (.ref e), o, x] ∧ H' e = some (.lst us) ∧ PrsAt H' us ((D.take i).flatMap fun x => (D.filter fun y => decide (y ≠ x)).map fun y => (x, y))) ∧ Same H3 H')
    ⟨⟨_, _, l4, [], rfl, upd_same, .nil⟩, sD⟩ (fun i σ H' _ pv => SqL.of (pv.2 _ _ hl)) ?_ ?_
  · rintro i v σ H4 _ lt ⟨⟨o, x, e, us, rfl, he, pu⟩, s4⟩ ⟨rfl, hx⟩
    rename_i H4
    obtain ⟨X, hX, rfl⟩ := atD hx
    refine ⟨_, rfl, _, rfl, l3, rfl, ⟨_, SqL.of (s4 _ _ hl)⟩, fun E1 hE1 => ?_⟩
    refine walk_W (L2.walk_list (xs := D.map V.str)) (fun j H' => (∃ vs, H' E1 = some (.lst vs) ∧ vs.length ≤ j ∧ PrsAt H' vs (((D.take j).filter fun y => decide (y ≠ X)).map fun y => (X, y))) ∧ Same H4 H') ⟨⟨[], upd_same, Nat.le_refl _, .nil⟩, same_new hE1⟩ (fun i H' _ pv => SqL.of (pv.2 _ _ (s4 _ _ hl))) ?_ ?_
    · rintro j y H5 _ ltj ⟨⟨vs, q1, q2, q3⟩, s5⟩ ⟨rfl, hy⟩
      rename_i H5
      obtain ⟨Y, hY, rfl⟩ := atD hy
      refine ⟨rfl, ?_⟩
      refine ⟨_, rfl, _, rfl, rfl, _, rfl, ?_⟩
      have step : (D.take (j + 1)).filter (fun y => decide (y ≠ X)) = (D.take j).filter (fun y => decide (y ≠ X)) ++ (if Y ≠ X then [Y] else []) := by
        rw [List.take_add_one, hY, List.filter_append]
        congr 1
        by_cases e : Y = X <;> simp [e]
      by_cases e : Y = X
      · have e1 : (!decide (V.str Y = V.str X)) = false := by rw [e, decide_eq_true rfl]; rfl
        rw [e1]
        refine iteF ⟨⟨vs, q1, by omega, ?_⟩, s5⟩
        rw [step, if_neg (fun z => z e), List.append_nil]
        exact q3
      · have e1 : (!decide (V.str Y = V.str X)) = true := by rw [decide_eq_false (fun z => e (by injection z))]; rfl
        rw [e1]
        refine iteT ⟨_, rfl, _, rfl, by show 2 ≤ sizeLine; decide, fun t ht => ?_⟩
        have st := same_new (o := .tup [.str X, .str Y]) ht
        refine ⟨vs, st _ _ q1, ?_, ⟨vs ++ [.ref t], upd_same, ?_, ?_⟩, fun b o hb => ?_⟩
        · rw [List.length_map] at ltj
          omega
        · rw [List.length_append, List.length_singleton]
          omega
        · rw [step, if_pos e, List.map_append]
          refine PrsAt.app ?_ (.cons ?_ .nil)
          · exact (q3.same st).upd (st _ _ q1)
          · rw [upd_ne (fun z => by rw [z, q1] at ht; exact nomatch ht)]
            exact upd_same
        · rw [upd_ne (ne_of_none hb hE1)]
          exact st _ _ (s5 b o hb)
    · rintro H5 ⟨⟨vs, q1, q2, q3⟩, s5⟩
      rw [List.length_map] at q2
      rw [List.length_map, List.take_length] at q3
      have he5 := s5 _ _ he
      have pu5 := pu.same s5
      have lu := pu.len
      have ll4 : ((D.take i).flatMap fun x => (D.filter fun y => decide (y ≠ x)).map fun y => (x, y)).length ≤ 49 := by
        rw [List.length_flatMap]
        have a : ((D.take i).map fun x => ((D.filter fun y => decide (y ≠ x)).map fun y => (x, y)).length).sum ≤ ((D.take i).map fun x => ((D.filter fun y => decide (y ≠ x)).map fun y => (x, y)).length).length * 7 := sum_le fun n hn => by
          obtain ⟨x, _, rfl⟩ := List.mem_map.mp hn
          rw [List.length_map]
          exact Nat.le_trans (List.length_filter_le _ _) l7
        rw [List.length_map, List.length_take] at a
        omega
      refine ⟨e, E1, us, vs, rfl, rfl, he5, q1, by omega, fun n hn => ?_⟩
      have sn := same_new (o := .lst (us ++ vs)) hn
      refine ⟨⟨_, _, n, us ++ vs, rfl, upd_same, ?_⟩, (s4.trans s5).trans sn⟩
      rw [List.take_add_one, hX, List.flatMap_append]
      refine PrsAt.app (pu5.same sn) ?_
      have z := q3.same sn
      simpa using z
  · rintro σ H4 ⟨⟨o, x, e, us, rfl, he, pu⟩, s4⟩
    rw [List.length_map, List.take_length] at pu
    exact ⟨_, rfl, q e us H4 (sC.trans s4) he pu⟩
abbrev s_law_price_table : Stmt := top 50
theorem sc_law_price_table : FnScope ["_law_box_here", "_law_letters", "_law_way", "_law_table", "_law_most", "_law_pair", "_law_drawn", "_law_common"] ["_law_box_here", "_law_letters"] (defScope s_law_price_table) := ⟨rfl, rfl, rfl, by decide +kernel, rfl, by decide +kernel, by decide +kernel⟩
def spTabl : Sp := fun vs H Q _ => ∃ (p : Addr) (L : Str), vs = [.ref p, .str L] ∧ BoxAt H p ∧ Lets L ∧ ∀ (t d : Addr) (kvs : List (List Key × V)) (c : Co) (H' : Hp), Kept H H' p → H' t = some (.tup [.ref d, oV c]) → H' d = some (.dT kvs) → Tab (symL (cod L)) kvs → Pr c → Q (.ref t) H'
theorem ok_tabl {f f1 f2 : Addr} {fd fd1 fd2 : FuncData} (F : Fun K "_law_price_table" "_law_price_table" s_law_price_table f fd) (T : Txt mg base)
    (D__law_take : Df P w K mg base CX0 1 "_law_take" f1 fd1 ["_law_box_here", "_law_size"] spTake) (D__law_pairs : Df P w K mg base CX0 1 "_law_pairs" f2 fd2 ["_law_letters"] spPairs) : FnG P w K mg base CX0 2 f fd ["_law_box_here", "_law_letters"] spTabl := by
  refine okG F sc_law_price_table (fun vs H Q E h => ?_) (fun cdv A outer s H vs Q E hc hr h => ?_)
  · obtain ⟨p, L, rfl, _⟩ := h
    rfl
  obtain ⟨p, L, rfl, hb, al, q⟩ := h
  refine ⟨_, (pss_cons (ps_par (i := 2) (j := 3) (by rfl) sc_law_price_table.nd rfl rfl (by decide) rfl rfl (pa_cons (pe_d D__law_take hc (hr.mono (by omega)) (by rfl) (fun _ => passN) (pa_cons (pv 0) (pa_cons pe_int pa_nil))) (pa_cons pe_dnewT pa_nil)) (by rfl))
 (pss_cons (ps_set (i := 4) sc_law_price_table.nd rfl (Or.inl rfl) (pe_ix ix_list (pe_lst (pa_cons pe_int (pa_cons pe_int (pa_cons pe_int (pa_cons pe_int pa_nil))))) (pe_d D__law_take hc (hr.mono (by omega)) (by rfl) (fun _ => passN) (pa_cons (pv 0) (pa_cons pe_int pa_nil))) (fun _ _ => rfl)))
 (pss_cons (ps_for (passes_of rfl) rfl (pi_list (pe_d D__law_pairs hc (hr.mono (by omega)) (by rfl) (fun _ => passN) (pa_cons (pv 1) pa_nil))) (pg_name (i := 5) sc_law_price_table.nd rfl (Or.inl rfl))
  (pss_cons (ps_set (i := 6) sc_law_price_table.nd rfl (Or.inl rfl) (pe_ix ix_list (pe_lst (pa_cons pe_non (pa_cons (pe_d D__law_take hc (hr.mono (by omega)) (by rfl) (fun _ => passN) (pa_cons (pv 0) (pa_cons (pv 4) pa_nil))) (pa_cons (pe_d D__law_take hc (hr.mono (by omega)) (by rfl) (fun _ => passN) (pa_cons (pv 0) (pa_cons (pv 4) pa_nil))) pa_nil)))) (pe_d D__law_take hc (hr.mono (by omega)) (by rfl) (fun _ => passN) (pa_cons (pv 0) (pa_cons pe_int pa_nil))) (fun _ _ => rfl)))
 (pss_one (ps_if (PW.pt (pw_or (PW.pt (pw_and (pt_cmpR op_eq (pv 2) pe_int (nomark _)) (pw_and1 (pt_cmpR op_in_seq pe_str (pv 5) (by rfl))))) (pw_or1 (PW.pt (pw_and (pt_cmpR op_eq (pv 2) pe_int (nomark _)) (pw_and1 (pt_cmpR op_notIn_seq pe_str (pv 5) (by rfl))))))))
  (pss_one (ps_dput (hu_of hr) (pv 3) (pv 5) (pe_op op_add pe_int (pe_d D__law_take hc (hr.mono (by omega)) (by rfl) (fun _ => passN) (pa_cons (pv 0) (pa_cons (pv 4) pa_nil)))) rfl)) (pss_one (ps_if (pt_cmpR op_eq (pv 2) pe_int (nomark _))
  (pss_one (ps_dput (hu_of hr) (pv 3) (pv 5) (pv 6) rfl)) (pss_one (ps_if (pt_cmpR op_eq (pv 2) pe_int (nomark _))
  (pss_one (ps_dput (hu_of hr) (pv 3) (pv 5) (pe_op op_add pe_int (pe_d D__law_take hc (hr.mono (by omega)) (by rfl) (fun _ => passN) (pa_cons (pv 0) (pa_cons pe_int pa_nil)))) rfl)) (pss_one (ps_if (PW.pt (pw_and (pt_cmpR op_eq (pv 2) pe_int (nomark _)) (pw_and1 (pt_cmpR op_eq (pe_d D__law_take hc (hr.mono (by omega)) (by rfl) (fun _ => passN) (pa_cons (pv 0) (pa_cons pe_int pa_nil))) pe_int (nomark _)))))
  (pss_one (ps_dput (hu_of hr) (pv 3) (pv 5) (pv 6) rfl)) pss_nil))))))))))
 (pss_cons (ps_set (i := 7) sc_law_price_table.nd rfl (Or.inl rfl) (pe_ix ix_list (pe_lst (pa_cons pe_int (pa_cons pe_non (pa_cons pe_int (pa_cons pe_non (pa_cons pe_int (pa_cons (pe_op op_add pe_int (pe_d D__law_take hc (hr.mono (by omega)) (by rfl) (fun _ => passN) (pa_cons (pv 0) (pa_cons pe_int pa_nil)))) (pa_cons pe_int pa_nil)))))))) (pv 2) (fun _ _ => rfl)))
 (pss_one (ps_ret (pe_tup (pa_cons (pv 3) (pa_cons (pv 7) pa_nil))))))))), ?_⟩
  have sz := sizeLine_eq
  have a1 := al.alp
  refine ⟨_, rfl, p, _, rfl, hb, by decide, by decide, fun way H1 w0 w1 t1 => ?_⟩
  refine fun d hd => ⟨_, _, rfl, ?_⟩
  have k1 : Kept H (upd H1 d (.dT [])) p := ((Kept.refl hb).turn t1).new hd
  have nd0 : H d = none := (t1.kept).free hb hd
  have hdp : d ≠ p := Kept.ne t1.box hd
  have hd1 : (upd H1 d (.dT [])) d = some (.dT []) := upd_same
  show tSeq _ _ _ _ (upd H1 d (.dT []))
  generalize upd H1 d (.dT []) = H2 at k1 hd1 ⊢
  clear hd t1 H1
  refine ⟨by show 4 ≤ sizeLine; decide, fun l1 hl1 => ?_⟩
  have k2 := k1.new (o := .lst [.int 1, .int 2, .int 4, .int 9]) hl1
  have e1 := upd_same (H := H2) (a := l1) (o := .lst [.int 1, .int 2, .int 4, .int 9])
  have hd2 := (same_new (o := .lst [.int 1, .int 2, .int 4, .int 9]) hl1) _ _ hd1
  have l1p : l1 ≠ p := Kept.ne k1.box hl1
  generalize upd H2 l1 (.lst [.int 1, .int 2, .int 4, .int 9]) = H3 at k2 e1 hd2 ⊢
  refine ⟨_, rfl, p, _, rfl, k2.box, by decide, by decide, fun i H4 i0 i1 t4 => ?_⟩
  obtain ⟨_, hv, ⟨m, rfl, m1, m9⟩⟩ := atI_all (l := [V.int 1, .int 2, .int 4, .int 9]) (p := fun v => ∃ m : Int, v = .int m ∧ 1 ≤ m ∧ m ≤ 9) (fun v hv => by
    simp only [List.mem_cons, List.not_mem_nil, or_false] at hv
    rcases hv with rfl | rfl | rfl | rfl
    · exact ⟨1, rfl, by decide, by decide⟩
    · exact ⟨2, rfl, by decide, by decide⟩
    · exact ⟨4, rfl, by decide, by decide⟩
    · exact ⟨9, rfl, by decide, by decide⟩) i0 i1
  have k4 := k2.turn t4
  have hd4 := t4.at hdp hd2
  refine ⟨l1, _, _, _, rfl, rfl, SqL.of (t4.at l1p e1), hv, ?_⟩
  clear e1 hd1 hd2 k1 k2 hl1 l1p t4 hv i0 i1 H2 H3
  refine ⟨_, rfl, L, rfl, al, fun D1 us H5 s5 hD1 pu => ?_⟩
  have k5 := k4.same s5
  have hd5 := s5 _ _ hd4
  clear k4 hd4 s5 H4
  have l7 := a1.lens
  have lu := pu.len
  have l49 := prsL_len l7
  have ok : ∀ q ∈ prsL (symL (cod L)), q.1 ∈ symL (cod L) ∧ q.2 ∈ symL (cod L) ∧ q.1 ≠ q.2 := fun q hq => prsL_mem.mp hq
  generalize symL (cod L) = D at *
  refine ⟨D1, rfl, ⟨_, SqL.of hD1⟩, ?_⟩
  have hDp : D1 ≠ p := fun e => by
    obtain ⟨x, y, z, hp, _⟩ := k5.box
    rw [e, hp] at hD1
    cases Option.some.inj hD1
    cases pu
  have hDd : D1 ≠ d := ne_of hD1 hd5 (fun z => nomatch z)
  refine L2.for_it (L2.walk_list (xs := us)) (fun i σ H' => (∃ (o5 o6 o7 : Option V), σ = [some (V.ref p), some (.str L), some (.int way), some (.ref d), some (.int m), o5, o6, o7]) ∧ (∃ kv, H' d = some (.dT kv) ∧ kv.length ≤ i ∧ TabK D kv) ∧ BoxAt H' p ∧ ∀ b o, b ≠ p → b ≠ d → H5 b = some o → H' b = some o)
    ⟨⟨_, _, _, rfl⟩, ⟨[], hd5, Nat.le_refl _, fun k v h => nomatch h⟩, k5.box, fun b o _ _ e => e⟩ (fun i σ H' _ pv => SqL.of (pv.2.2.2 _ _ hDp hDd hD1)) ?_ ?_
  · rintro i v σ H6 _ lt ⟨⟨o5, o6, o7, rfl⟩, ⟨kv, q1, q2, q3⟩, bx, kp⟩ ⟨rfl, hx⟩
    rename_i H6
    obtain ⟨t, x, y, rfl, ht, hl⟩ := pu.at hx
    obtain ⟨mx, my, ne⟩ := ok _ (List.mem_of_getElem? hl)
    have htp : t ≠ p := fun e => by
      obtain ⟨x, y, z, hp, _⟩ := k5.box
      rw [e, hp] at ht
      exact nomatch ht
    have htd : t ≠ d := ne_of ht hd5 (fun z => nomatch z)
    refine ⟨_, rfl, _, rfl, p, m, rfl, bx, by omega, by omega, fun x1 H7 x10 x11 t7 => ?_⟩
    refine ⟨_, rfl, _, rfl, p, m, rfl, t7.box, by omega, by omega, fun x2 H8 x20 x21 t8 => ?_⟩
    refine ⟨by show 3 ≤ sizeLine; decide, fun l hl => ?_⟩
    have k8 := (((Kept.refl bx).turn t7).turn t8).new (o := .lst [.non, .int x1, .int x2]) hl
    have lp : l ≠ p := Kept.ne t8.box hl
    have el := upd_same (H := H8) (a := l) (o := .lst [.non, .int x1, .int x2])
    generalize upd H8 l (.lst [.non, .int x1, .int x2]) = H8' at k8 el ⊢
    refine ⟨_, rfl, p, _, rfl, k8.box, by decide, by decide, fun x3 H9 x30 x31 t9 => ?_⟩
    obtain ⟨_, hv, ⟨c, rfl, pc⟩⟩ := atI_all (l := [V.non, .int x1, .int x2]) (p := fun v => ∃ c : Co, v = oV c ∧ Pr c) (fun v hv => by
      simp only [List.mem_cons, List.not_mem_nil, or_false] at hv
      rcases hv with rfl | rfl | rfl
      · exact ⟨none, rfl, pr_none⟩
      · exact ⟨some x1, rfl, pr_some x10 (by omega)⟩
      · exact ⟨some x2, rfl, pr_some x20 (by omega)⟩) x30 x31
    refine ⟨l, _, _, _, rfl, rfl, SqL.of (t9.at lp el), hv, ?_⟩
    have k9 := k8.turn t9
    have q1' := k9.2 d _ hdp q1
    have ht9 := k9.2 t _ htp (kp t _ htp htd ht)
    have kp9 : ∀ b o, b ≠ p → b ≠ d → H5 b = some o → H9 b = some o := fun b o h1 h2 e => k9.2 b o h1 (kp b o h1 h2 e)
    have bx9 := k9.box
    clear k9 k8 t9 el hv lp hl t8 t7 q1 kp bx x30 x31 x10 x11 x20 x21
    have fin : ∀ (H' : Hp) (c : Co) (o5 o6 o7 : Option V), Kept H9 H' p → Pr c → ∃ a H4, V.ref d = .ref a ∧ DPut H' a (.ref t) (oV c) H4 ∧
        (fun σ H' => (∃ (o5 o6 o7 : Option V), σ = [some (V.ref p), some (.str L), some (.int way), some (.ref d), some (.int m), o5, o6, o7]) ∧ (∃ kv, H' d = some (.dT kv) ∧ kv.length ≤ i + 1 ∧ TabK D kv) ∧ BoxAt H' p ∧ ∀ b o, b ≠ p → b ≠ d → H5 b = some o → H' b = some o)
          [some (V.ref p), some (.str L), some (.int way), some (.ref d), some (.int m), o5, o6, o7] H4 := by
      intro H' c o5 o6 o7 k pc
      have hd' := k.2 d _ hdp q1'
      refine ⟨d, _, rfl, DPut.t (k := kk x y) hd' (k.2 t _ htp ht9) (by omega), ⟨_, _, _, rfl⟩, ⟨_, upd_same, ?_, q3.put mx my ne pc⟩, BoxAt.keep_ne k.box hdp.symm, fun b o h1 h2 e => ?_⟩
      · have := length_putK kv (kk x y) (oV c)
        omega
      · rw [upd_ne h2]
        exact k.2 b o h1 (kp9 b o h1 h2 e)
    have kr := Kept.refl bx9
    dsimp only [gName]
    refine any_if (any_or (any_and ?_ ?_) (any_and ?_ ?_)) ?_ ?_
    · exact fun Q h => ⟨_, rfl, rfl, _, rfl, h _⟩
    · exact fun Q h => ⟨_, rfl, t, _, rfl, .inr (SqT.of ht9), rfl, rfl, _, rfl, h _⟩
    · exact fun Q h => ⟨_, rfl, rfl, _, rfl, h _⟩
    · exact fun Q h => ⟨_, rfl, t, _, rfl, .inr (SqT.of ht9), rfl, rfl, _, rfl, h _⟩
    · refine ⟨_, rfl, _, rfl, p, m, rfl, bx9, by omega, by omega, fun x4 H10 y0 y1 t10 => ?_⟩
      exact ⟨_, _, rfl, rfl, _, rfl, _, rfl, fin H10 (some (1 + x4)) _ _ _ (kr.turn t10) (pr_some (by omega) (by omega))⟩
    refine any_if ?_ ?_ ?_
    · exact fun Q h => ⟨_, rfl, rfl, _, rfl, h _⟩
    · exact ⟨_, rfl, _, rfl, _, rfl, fin H9 c _ _ _ kr pc⟩
    refine any_if ?_ ?_ ?_
    · exact fun Q h => ⟨_, rfl, rfl, _, rfl, h _⟩
    · refine ⟨_, rfl, p, _, rfl, bx9, by decide, by decide, fun x4 H10 y0 y1 t10 => ?_⟩
      exact ⟨_, _, rfl, rfl, _, rfl, _, rfl, fin H10 (some (1 + x4)) _ _ _ (kr.turn t10) (pr_some (by omega) (by omega))⟩
    have skip : ∀ (H' : Hp) (o5 o6 o7 : Option V), Kept H9 H' p → (fun σ H' => (∃ (o5 o6 o7 : Option V), σ = [some (V.ref p), some (.str L), some (.int way), some (.ref d), some (.int m), o5, o6, o7]) ∧ (∃ kv, H' d = some (.dT kv) ∧ kv.length ≤ i + 1 ∧ TabK D kv) ∧ BoxAt H' p ∧ ∀ b o, b ≠ p → b ≠ d → H5 b = some o → H' b = some o)
          [some (V.ref p), some (.str L), some (.int way), some (.ref d), some (.int m), o5, o6, o7] H' := fun H' o5 o6 o7 k =>
      ⟨⟨_, _, _, rfl⟩, ⟨kv, k.2 d _ hdp q1', by omega, q3⟩, k.box, fun b o h1 h2 e => k.2 b o h1 (kp9 b o h1 h2 e)⟩
    refine ⟨_, rfl, rfl, _, rfl, ?_⟩
    refine iteB (fun cw => ?_) (fun cw => ?_)
    · refine ⟨_, rfl, p, _, rfl, bx9, by decide, by decide, fun x4 H10 y0 y1 t10 => ?_⟩
      refine ⟨rfl, _, rfl, iteB (fun cz => ?_) (fun cz => ?_)⟩
      · exact ⟨_, rfl, _, rfl, _, rfl, fin H10 c _ _ _ (kr.turn t10) pc⟩
      · exact skip H10 _ _ _ (kr.turn t10)
    · exact skip H9 _ _ _ kr
  · rintro σ H6 ⟨⟨o5, o6, o7, rfl⟩, ⟨kv, q1, q2, q3⟩, bx, kp⟩
    have tb : Tab D kv := ⟨by omega, q3⟩
    refine ⟨_, rfl, p, _, rfl, bx, by decide, by decide, fun x1 H7 x10 x11 t7 => ?_⟩
    refine ⟨_, _, rfl, rfl, by show 7 ≤ sizeLine; decide, fun l hl => ?_⟩
    have kA : Kept H6 H7 p := (Kept.refl bx).turn t7
    have kB := kA.new (o := .lst [.int 1, .non, .int 2, .non, .int 9, .int (1 + x1), .int 1]) hl
    have el := upd_same (H := H7) (a := l) (o := .lst [.int 1, .non, .int 2, .non, .int 9, .int (1 + x1), .int 1])
    obtain ⟨_, hv, ⟨c, rfl, pc⟩⟩ := atI_all (l := [V.int 1, .non, .int 2, .non, .int 9, .int (1 + x1), .int 1]) (p := fun v => ∃ c : Co, v = oV c ∧ Pr c) (fun v hv => by
      simp only [List.mem_cons, List.not_mem_nil, or_false] at hv
      rcases hv with rfl | rfl | rfl | rfl | rfl | rfl | rfl
      · exact ⟨some 1, rfl, pr_some (by decide) (by decide)⟩
      · exact ⟨none, rfl, pr_none⟩
      · exact ⟨some 2, rfl, pr_some (by decide) (by decide)⟩
      · exact ⟨none, rfl, pr_none⟩
      · exact ⟨some 9, rfl, pr_some (by decide) (by decide)⟩
      · exact ⟨some (1 + x1), rfl, pr_some (by omega) (by omega)⟩
      · exact ⟨some 1, rfl, pr_some (by decide) (by decide)⟩) w0 w1
    refine ⟨_, rfl, l, _, _, _, rfl, rfl, SqL.of el, hv, ?_⟩
    refine ⟨_, rfl, _, rfl, by show 2 ≤ sizeLine; decide, fun t ht => ?_⟩
    have kC := kB.new (o := .tup [.ref d, oV c]) ht
    refine q t d kv c _ ⟨kC.box, fun b o hb e => ?_⟩ upd_same (kC.2 d _ hdp q1) tb pc
    have hbd : b ≠ d := ne_of_none e nd0
    exact kC.2 b o hb (kp b o hb hbd (k5.2 b o hb e))
end
end KC

namespace KC
open PySem L2 Gd Fw KM
theorem paired_app {α β : Type} {F : α → β → Prop} {l1 l2 : List α} {m1 m2 : List β} (h : Paired F l1 m1) (k : Paired F l2 m2) : Paired F (l1 ++ l2) (m1 ++ m2) := by
  induction h with
  | nil => exact k
  | cons h _ ih => exact .cons h ih
theorem relax_no {M X Y : Str} {g : Fn Str} (h : cheap (csum (g X M) (g M Y)) (g X Y) = false) : relax M X Y g = g := by
  unfold relax
  rw [h]
  rfl
theorem relax_yes {M X Y : Str} {g : Fn Str} (h : cheap (csum (g X M) (g M Y)) (g X Y) = true) : relax M X Y g = Fw.put g X Y (csum (g X M) (g M Y)) := by
  unfold relax
  rw [if_pos h]
def spLCosts : Sp := fun vs H Q _ => ∃ (L : Str) (d : Addr) (kvs : List (List Key × V)) (c : Co), vs = [.str L, .ref d, oV c] ∧ Lets L ∧ H d = some (.dT kvs) ∧ Tab (symL (cod L)) kvs ∧ Pr c ∧
  ∀ (e : Addr) (H' : Hp), Same H H' → H e = none → DFn H' e (symL (cod L)) (spn (cod L) (prc kvs c)) → Q (.ref e) H'
section
variable {P : Program} {w : World} {K : PySem.W.Frag} {mg : Str → Option Value} {base : Heap}
abbrev s_law_costs : Stmt := top 51
theorem sc_law_costs : FnScope ["_law_letters", "_law_table", "_law_common", "_law_symbols", "_law_found", "_law_symbol", "_law_middle", "_law_one", "_law_other", "_law_ahead", "_law_behind", "_law_pair"] ["_law_letters", "_law_table", "_law_common"] (defScope s_law_costs) := ⟨rfl, rfl, rfl, by decide +kernel, rfl, by decide +kernel, by decide +kernel⟩
theorem ok_lcosts {f f1 : Addr} {fd fd1 : FuncData} (F : Fun K "_law_costs" "_law_costs" s_law_costs f fd) (T : Txt mg base)
    (D__law_pairs : Df P w K mg base CX0 1 "_law_pairs" f1 fd1 ["_law_letters"] spPairs) : FnG P w K mg base CX0 2 f fd ["_law_letters", "_law_table", "_law_common"] spLCosts := by
  refine okG F sc_law_costs (fun vs H Q E h => ?_) (fun cdv A outer s H vs Q E hc hr h => ?_)
  · obtain ⟨L, d, kvs, c, rfl, _⟩ := h
    rfl
  obtain ⟨L, d, kvs, c, rfl, al, hd, tb, pc, q⟩ := h
  refine ⟨_, (pss_cons (ps_set (i := 3) sc_law_costs.nd rfl (Or.inl rfl) (pe_op op_cat (pe_lst (pa_cons pe_str pa_nil)) (pe_callB (cr_sortX rfl) (by rfl) T.z_sorted (by decide +kernel) (pa_cons (pv 0) pa_nil))))
 (pss_cons (ps_set (i := 4) sc_law_costs.nd rfl (Or.inl rfl) (pe_callTy (call_dictT rfl (hu2_of hr)) (by rfl) T.z_dict (by decide +kernel) (pa_cons (pe_lc (own := [("_law_pair", 11)]) (g := gName 11) rfl sc_law_costs.nd (pi_list (pe_d D__law_pairs hc (hr.mono (by omega)) (by rfl) (fun _ => passN) (pa_cons (pv 0) pa_nil))) (blkOk_by (N := ["_law_letters", "_law_table", "_law_common", "_law_symbols", "_law_found", "_law_symbol", "_law_middle", "_law_one", "_law_other", "_law_ahead", "_law_behind", "_law_pair"]) (sc := defScope s_law_costs) (by decide +kernel)) (fun _ _ _ _ _ => pg_name (i := 11) sc_law_costs.nd rfl (Or.inl rfl)) (fun _ _ _ _ _ => pts_nil) (fun _ _ _ _ _ => (pe_tup (pa_cons (pv 11) (pa_cons (pe_dget2 (hu_of hr) (pv 1) (pv 11) (pv 2) ⟨by rfl, by rfl, by rfl, by rfl⟩) pa_nil))))) pa_nil)))
 (pss_cons (ps_for (passes_of rfl) rfl (pi_list (pv 3)) (pg_name (i := 5) sc_law_costs.nd rfl (Or.inl rfl))
  (pss_one (ps_dput (hu_of hr) (pv 4) (pe_tup (pa_cons (pv 5) (pa_cons (pv 5) pa_nil))) pe_int rfl)))
 (pss_cons (ps_for (passes_of rfl) rfl (pi_list (pv 3)) (pg_name (i := 6) sc_law_costs.nd rfl (Or.inl rfl))
  (pss_one (ps_for (passes_of rfl) rfl (pi_list (pv 3)) (pg_name (i := 7) sc_law_costs.nd rfl (Or.inl rfl))
  (pss_one (ps_for (passes_of rfl) rfl (pi_list (pv 3)) (pg_name (i := 8) sc_law_costs.nd rfl (Or.inl rfl))
  (pss_cons (ps_par (i := 9) (j := 10) (by rfl) sc_law_costs.nd rfl rfl (by decide) rfl rfl (pa_cons (pe_dget (hu_of hr) (pv 4) (pe_tup (pa_cons (pv 7) (pa_cons (pv 6) pa_nil))) (fun _ _ => rfl)) (pa_cons (pe_dget (hu_of hr) (pv 4) (pe_tup (pa_cons (pv 6) (pa_cons (pv 8) pa_nil))) (fun _ _ => rfl)) pa_nil)) (by rfl))
 (pss_one (ps_if (PW.pt (pw_and (pt_cmpR op_notN (pv 9) pe_non (nomark _)) (pw_and1 (pt_cmpR op_notN (pv 10) pe_non (nomark _)))))
  (pss_one (ps_if (PW.pt (pw_or (pt_cmpR op_isN (pe_dget (hu_of hr) (pv 4) (pe_tup (pa_cons (pv 7) (pa_cons (pv 8) pa_nil))) (fun _ _ => rfl)) pe_non (nomark _)) (pw_or1 (pt_cmpR op_lt (pe_op op_add (pv 9) (pv 10)) (pe_dget (hu_of hr) (pv 4) (pe_tup (pa_cons (pv 7) (pa_cons (pv 8) pa_nil))) (fun _ _ => rfl)) (nomark _)))))
  (pss_one (ps_dput (hu_of hr) (pv 4) (pe_tup (pa_cons (pv 7) (pa_cons (pv 8) pa_nil))) (pe_op op_add (pv 9) (pv 10)) rfl)) pss_nil)) pss_nil))))))))
 (pss_one (ps_ret (pv 4))))))), ?_⟩
  have sz := sizeLine_eq
  have ll := al.len
  have a1 := al.alp
  refine ⟨by show 1 ≤ sizeLine; decide, fun l1 hl1 => ?_⟩
  refine ⟨_, rfl, L, rfl, by omega, fun ys l2 perm srt hl2 => ?_⟩
  have ey := sorted_eq perm srt
  subst ey
  have cl := cod_len L
  have sA := same_new (o := .lst [.str (Str.ofString "")]) hl1
  have sB := sA.trans (same_new (o := .lst (((cod L).map sg).map V.str)) hl2)
  have e1 := (same_new (o := .lst (((cod L).map sg).map V.str)) hl2) l1 (.lst [.str (Str.ofString "")]) upd_same
  refine ⟨l1, l2, _, _, rfl, rfl, e1, upd_same, ?_, fun l3 hl3 => ?_⟩
  · rw [List.length_map, List.length_map, cl, List.length_singleton]
    omega
  rw [symL_map]
  have sC := sB.trans (same_new (o := .lst ((symL (cod L)).map V.str)) hl3)
  have hl := upd_same (H := upd (upd H l1 (.lst [.str (Str.ofString "")])) l2 (.lst (((cod L).map sg).map V.str))) (a := l3) (o := .lst ((symL (cod L)).map V.str))
  generalize upd (upd (upd H l1 (.lst [.str (Str.ofString "")])) l2 (.lst (((cod L).map sg).map V.str))) l3 (.lst ((symL (cod L)).map V.str)) = H3 at sC hl ⊢
  clear sA sB e1 hl1 hl2 hl3
  have l7 := a1.lens
  have nd := a1.nds
  have val : ∀ X ∈ symL (cod L), ∀ Y ∈ symL (cod L), X ≠ Y → (valV kvs (kk X Y)).getD (oV c) = oV (prc kvs c X Y) := fun X hX Y hY ne => by
    unfold prc
    rw [if_neg ne]
    cases h : valV kvs (kk X Y) with
    | none => rfl
    | some v =>
      obtain ⟨_, _, _, _, _, _, a, rfl, pa⟩ := tb.2 _ _ (valV_mem h)
      show oV a = oV (vO (oV a))
      rw [vO_oV]
  have vself : ∀ X, oV (prc kvs c X X) = .int 0 := fun X => by
    unfold prc
    rw [if_pos rfl]
    rfl
  have hd3 := sC _ _ hd
  refine ⟨_, rfl, L, rfl, al, fun D1 us H5 s5 hD1 pu => ?_⟩
  have hd5 := s5 _ _ hd3
  have hl5 := s5 _ _ hl
  have sD := sC.trans s5
  clear hd3 hl s5 sC H3
  have lu := pu.len
  have l49 := prsL_len l7
  have ok : ∀ q ∈ prsL (symL (cod L)), q.1 ∈ symL (cod L) ∧ q.2 ∈ symL (cod L) ∧ q.1 ≠ q.2 := fun q hq => prsL_mem.mp hq
  have okm : ∀ {x y : Str}, x ∈ symL (cod L) → y ∈ symL (cod L) → x ≠ y → (x, y) ∈ prsL (symL (cod L)) := fun hx hy ne => prsL_mem.mpr ⟨hx, hy, ne⟩
  change ∀ (e : Addr) (H' : Hp), Same H H' → H e = none → DFn H' e (symL (cod L)) (run (symL (cod L)) (symL (cod L)) (prc kvs c)) → Q (.ref e) H' at q
  generalize prc kvs c = p at *
  generalize symL (cod L) = D at *
  refine ⟨D1, rfl, ⟨_, SqL.of hD1⟩, fun E1 hE1 => ?_⟩
  refine walk_W (L2.walk_list (xs := us)) (fun i H' => (∃ ps : List Addr, H' E1 = some (.lst (ps.map V.ref)) ∧ ps.length ≤ i ∧ Paired (PairT K H') ps (((prsL D).take i).map fun q => (kk q.1 q.2, oV (p q.1 q.2)))) ∧ Same H5 H') ⟨⟨[], upd_same, Nat.le_refl _, .nil⟩, same_new hE1⟩ (fun i H' _ pv => SqL.of (pv.2 _ _ hD1)) ?_ ?_
  · rintro i v H6 _ lt ⟨⟨ps, q1, q2, q3⟩, s6⟩ ⟨rfl, hv⟩
    rename_i H6
    obtain ⟨t, x, y, rfl, ht, hl⟩ := pu.at hv
    obtain ⟨mx, my, ne⟩ := ok _ (List.mem_of_getElem? hl)
    refine ⟨rfl, yes_go ?_⟩
    have ht6 := s6 _ _ ht
    have hd6 := s6 _ _ hd5
    refine ⟨_, rfl, _, rfl, d, rfl, .inr ⟨kvs, .inl hd6⟩, _, rfl, _, rfl, _, DGet.t (k := kk x y) hd6 ht6, ?_⟩
    rw [val x mx y my ne]
    refine ⟨by show 2 ≤ sizeLine; decide, fun n hn => ?_⟩
    have sn := same_new (o := .tup [.ref t, oV (p x y)]) hn
    refine ⟨_, sn _ _ q1, by rw [List.length_map]; omega, ⟨ps ++ [n], ?_, ?_, ?_⟩, fun b o hb => ?_⟩
    · rw [upd_same, List.map_append]
      rfl
    · rw [List.length_append, List.length_singleton]
      omega
    · have nE : ∀ {b : Addr} {xs : List V}, H6 b = some (.tup xs) → b ≠ E1 := fun h => ne_of h q1 (fun z => nomatch z)
      have keep : ∀ b xs, H6 b = some (.tup xs) → (upd (upd H6 n (.tup [.ref t, oV (p x y)])) E1 (.lst (ps.map V.ref ++ [.ref n]))) b = some (.tup xs) := fun b xs h => by
        rw [upd_ne (nE h)]
        exact sn _ _ h
      rw [List.take_add_one, hl, List.map_append]
      refine paired_app (Paired.mapP q3 fun a kv ⟨b, h1, h2⟩ => ⟨b, ?_, keep _ _ h2⟩) (.cons ⟨t, SqT.of ?_, keep _ _ ht6⟩ .nil)
      · rcases h1 with (h1 | ⟨o, h1⟩) | h1
        · exact .inl (.inl (keep _ _ h1))
        · refine .inl (.inr ⟨o, ?_⟩)
          rw [upd_ne (ne_of h1 q1 (fun z => nomatch z))]
          exact sn _ _ h1
        · exact .inr h1
      · rw [upd_ne (fun z => by rw [z, q1] at hn; exact nomatch hn)]
        exact upd_same
    · rw [upd_ne (ne_of_none hb hE1)]
      exact sn _ _ (s6 b o hb)
  rintro H6 ⟨⟨ps, q1, q2, q3⟩, s6⟩
  rw [lu, List.take_length] at q3
  refine ⟨E1, ps, _, rfl, SqL.of q1, q3, fun e he => ?_⟩
  have hne : H e = none := by
    cases z : H e with
    | none => rfl
    | some o => rw [s6 _ _ (sD _ _ z)] at he; exact nomatch he
  have ps0 := Par.merge (prsL D) [] [] (par_nil fun x y => oV (p x y))
  rw [List.nil_append] at ps0
  have sE := (sD.trans s6).trans (same_new (o := .dT (mergeT [] ((prsL D).map fun q => (kk q.1 q.2, oV (p q.1 q.2))))) he)
  have hl6 := (same_new (o := .dT (mergeT [] ((prsL D).map fun q => (kk q.1 q.2, oV (p q.1 q.2))))) he) _ _ (s6 _ _ hl5)
  have he6 := upd_same (H := H6) (a := e) (o := .dT (mergeT [] ((prsL D).map fun q => (kk q.1 q.2, oV (p q.1 q.2)))))
  generalize upd H6 e (.dT (mergeT [] ((prsL D).map fun q => (kk q.1 q.2, oV (p q.1 q.2))))) = H7 at sE hl6 he6 ⊢
  generalize mergeT [] ((prsL D).map fun q => (kk q.1 q.2, oV (p q.1 q.2))) = kv at ps0 he6
  clear he q1 q2 q3 s6 H6 lu pu hD1 hl5 hd5 hE1 ps us
  have ne3 : l3 ≠ e := ne_of hl6 he6 (fun z => nomatch z)
  have atD : ∀ {i : Nat} {x : V}, (D.map V.str)[i]? = some x → ∃ X, D[i]? = some X ∧ x = .str X := fun {i x} h => by
    rw [List.getElem?_map] at h
    cases e : D[i]? with
    | none => rw [e] at h; exact nomatch h
    | some X => rw [e] at h; exact ⟨X, rfl, (Option.some.inj h).symm⟩
  refine ⟨_, rfl, l3, rfl, ⟨_, SqL.of hl6⟩, ?_⟩
  refine L2.for_it (L2.walk_list (xs := D.map V.str)) (fun i σ H' => (∃ o5 o6 o7 o8 o9 o10 : Option V, σ = [some (V.str L), some (.ref d), some (oV c), some (.ref l3), some (.ref e), o5, o6, o7, o8, o9, o10, none]) ∧
    (∃ kv, H' e = some (.dT kv) ∧ Par (prsL D ++ (D.take i).map fun x => (x, x)) (fun x y => oV (p x y)) kv) ∧ Same H H' ∧ H' l3 = some (.lst (D.map V.str)))
    ⟨⟨_, _, _, _, _, _, rfl⟩, ⟨kv, he6, by rw [List.take_zero, List.map_nil, List.append_nil]; exact ps0⟩, sE, hl6⟩ (fun i σ H' _ pv => SqL.of pv.2.2.2) ?_ ?_
  · rintro i v σ H8 _ lt ⟨⟨o5, o6, o7, o8, o9, o10, rfl⟩, ⟨kv, q1, q2⟩, s8, hl8⟩ ⟨rfl, hx⟩
    rename_i H8
    obtain ⟨X, hX, rfl⟩ := atD hx
    refine ⟨_, rfl, _, rfl, _, rfl, by show 2 ≤ sizeLine; decide, fun t ht => ?_⟩
    have st := same_new (o := .tup [.str X, .str X]) ht
    refine ⟨e, _, rfl, DPut.t (k := kk X X) (st _ _ q1) upd_same ?_, ⟨_, _, _, _, _, _, rfl⟩, ⟨_, upd_same, ?_⟩, fun b o hb => ?_, ?_⟩
    · have := q2.len
      rw [List.length_append, List.length_map, List.length_take] at this
      omega
    · have z := q2.self X X
      rw [vself X] at z
      rw [List.take_add_one, hX, List.map_append, ← List.append_assoc]
      exact z
    · rw [upd_ne (ne_of_none hb hne)]
      exact st _ _ (s8 b o hb)
    · rw [upd_ne ne3]
      exact st _ _ hl8
  rintro σ H8 ⟨⟨o5, o6, o7, o8, o9, o10, rfl⟩, ⟨kv, q1, q2⟩, s8, hl8⟩
  rw [List.length_map, List.take_length] at q2
  have f0 : DFn H8 e D p := ⟨kv, q1, q2.dic' (by rw [List.length_append, List.length_map]; omega) (fun x hx y hy => by
    by_cases z : x = y
    · subst z
      exact List.mem_append_right _ (List.mem_map.mpr ⟨x, hx, rfl⟩)
    · exact List.mem_append_left _ (okm hx hy z)) fun q hq => by
      rcases List.mem_append.mp hq with h | h
      · exact ⟨(ok q h).1, (ok q h).2.1⟩
      · obtain ⟨x, hx, rfl⟩ := List.mem_map.mp h
        exact ⟨hx, hx⟩⟩
  clear q1 q2 kv sE hl6 he6 ps0 H7 sD
  refine ⟨_, rfl, l3, rfl, ⟨_, SqL.of hl8⟩, ?_⟩
  refine L2.for_it (L2.walk_list (xs := D.map V.str)) (fun i σ H' => (∃ o5 o6 o7 o8 o9 o10 : Option V, σ = [some (V.str L), some (.ref d), some (oV c), some (.ref l3), some (.ref e), o5, o6, o7, o8, o9, o10, none]) ∧
    DFn H' e D (run (D.take i) D p) ∧ Same H H' ∧ H' l3 = some (.lst (D.map V.str))) ⟨⟨_, _, _, _, _, _, rfl⟩, f0, s8, hl8⟩ (fun i σ H' _ pv => SqL.of pv.2.2.2) ?_ ?_
  · clear f0 s8 hl8 H8 o5 o6 o7 o8 o9 o10
    rintro i v σ H8 _ lt ⟨⟨o5, o6, o7, o8, o9, o10, rfl⟩, f8, s8, hl8⟩ ⟨rfl, hx⟩
    obtain ⟨M, hM, rfl⟩ := atD hx
    have mD : M ∈ D := List.mem_of_getElem? hM
    have step : run (D.take (i + 1)) D p = passF M D D (run (D.take i) D p) := fold_take _ _ hM
    rw [step]
    generalize run (D.take i) D p = g0 at f8
    refine ⟨_, rfl, l3, rfl, ⟨_, SqL.of hl8⟩, ?_⟩
    refine L2.for_it (L2.walk_list (xs := D.map V.str)) (fun j σ H' => (∃ o5 o7 o8 o9 o10 : Option V, σ = [some (V.str L), some (.ref d), some (oV c), some (.ref l3), some (.ref e), o5, some (.str M), o7, o8, o9, o10, none]) ∧
      DFn H' e D (passF M (D.take j) D g0) ∧ Same H H' ∧ H' l3 = some (.lst (D.map V.str))) ⟨⟨_, _, _, _, _, rfl⟩, f8, s8, hl8⟩ (fun i σ H' _ pv => SqL.of pv.2.2.2) ?_ ?_
    · clear f8 s8 hl8 o5 o6 o7 o8 o9 o10
      rintro j v σ H8 _ ltj ⟨⟨o5, o7, o8, o9, o10, rfl⟩, f8, s8, hl8⟩ ⟨rfl, hx⟩
      obtain ⟨X, hX, rfl⟩ := atD hx
      have xD : X ∈ D := List.mem_of_getElem? hX
      have step : passF M (D.take (j + 1)) D g0 = rowF M X D (passF M (D.take j) D g0) := fold_take _ _ hX
      rw [step]
      generalize passF M (D.take j) D g0 = g1 at f8
      refine ⟨_, rfl, l3, rfl, ⟨_, SqL.of hl8⟩, ?_⟩
      refine L2.for_it (L2.walk_list (xs := D.map V.str)) (fun k σ H' => (∃ o5 o8 o9 o10 : Option V, σ = [some (V.str L), some (.ref d), some (oV c), some (.ref l3), some (.ref e), o5, some (.str M), some (.str X), o8, o9, o10, none]) ∧
        DFn H' e D (rowF M X (D.take k) g1) ∧ Same H H' ∧ H' l3 = some (.lst (D.map V.str))) ⟨⟨_, _, _, _, rfl⟩, f8, s8, hl8⟩ (fun i σ H' _ pv => SqL.of pv.2.2.2) ?_ ?_
      · clear f8 s8 hl8 o5 o7 o8 o9 o10
        rintro k v σ H8 _ ltk ⟨⟨o5, o8, o9, o10, rfl⟩, f8, s8, hl8⟩ ⟨rfl, hx⟩
        rename_i H8
        obtain ⟨Y, hY, rfl⟩ := atD hx
        have yD : Y ∈ D := List.mem_of_getElem? hY
        have step : rowF M X (D.take (k + 1)) g1 = relax M X Y (rowF M X (D.take k) g1) := fold_take _ _ hY
        rw [step]
        generalize rowF M X (D.take k) g1 = g at f8
        have done : ∀ H' o9 o10, DFn H' e D (relax M X Y g) → Same H H' → H' l3 = some (.lst (D.map V.str)) → (fun σ H' => (∃ o5 o8 o9 o10 : Option V, σ = [some (V.str L), some (.ref d), some (oV c), some (.ref l3), some (.ref e), o5, some (.str M), some (.str X), o8, o9, o10, none]) ∧
          DFn H' e D (relax M X Y g) ∧ Same H H' ∧ H' l3 = some (.lst (D.map V.str))) [some (V.str L), some (.ref d), some (oV c), some (.ref l3), some (.ref e), o5, some (.str M), some (.str X), some (.str Y), o9, o10, none] H' := fun H' o9 o10 h1 h2 h3 => ⟨⟨_, _, _, _, rfl⟩, h1, h2, h3⟩
        refine ⟨_, rfl, _, rfl, _, rfl, by show 2 ≤ sizeLine; decide, fun b1 hb1 => ?_⟩
        have s1 := same_new (o := .tup [.str X, .str M]) hb1
        refine ⟨e, _, rfl, (f8.same s1).get xD mD upd_same, ?_⟩
        refine ⟨_, rfl, _, rfl, _, rfl, by show 2 ≤ sizeLine; decide, fun b2 hb2 => ?_⟩
        have s2 := s1.trans (same_new (o := .tup [.str M, .str Y]) hb2)
        refine ⟨e, _, rfl, (f8.same s2).get mD yD upd_same, ?_⟩
        refine ⟨_, _, rfl, ?_⟩
        have f9 := f8.same s2
        have s9 := s8.trans s2
        have hl9 := s2 _ _ hl8
        generalize upd (upd H8 b1 _) b2 _ = H9 at f9 s9 hl9 ⊢
        clear f8 s8 hl8 s1 s2 hb1 hb2 H8
        refine ⟨_, rfl, rfl, _, rfl, ?_⟩
        cases e1 : g X M with
        | none => exact done H9 _ _ (by rw [relax_no (by rw [e1]; rfl)]; exact f9) s9 hl9
        | some u =>
        refine ⟨_, rfl, rfl, _, rfl, ?_⟩
        cases e2 : g M Y with
        | none => exact done H9 _ _ (by rw [relax_no (by rw [e1, e2]; rfl)]; exact f9) s9 hl9
        | some v =>
        refine ⟨_, rfl, _, rfl, _, rfl, by show 2 ≤ sizeLine; decide, fun b3 hb3 => ?_⟩
        have s3 := same_new (o := .tup [.str X, .str Y]) hb3
        refine ⟨e, _, rfl, (f9.same s3).get xD yD upd_same, ?_⟩
        refine ⟨rfl, _, rfl, ?_⟩
        have f10 := f9.same s3
        have s10 := s9.trans s3
        have hl10 := s3 _ _ hl9
        generalize upd H9 b3 _ = H10 at f10 s10 hl10 ⊢
        clear f9 s9 hl9 s3 hb3 H9
        cases e3 : g X Y with
        | none =>
          refine ⟨_, rfl, _, rfl, _, _, rfl, rfl, _, rfl, _, rfl, _, rfl, by show 2 ≤ sizeLine; decide, fun b hb => ?_⟩
          have s' := same_new (o := .tup [.str X, .str Y]) hb
          obtain ⟨o, dp, f'⟩ := (f10.same s').put (c := some (u + v)) xD yD upd_same
          refine ⟨e, _, rfl, dp, ?_⟩
          refine done _ _ _ ?_ (fun q o hq => ?_) ?_
          · rw [relax_yes (by rw [e1, e2, e3]; rfl), e1, e2]
            exact f'
          · rw [upd_ne (ne_of_none hq hne)]
            exact s' _ _ (s10 _ _ hq)
          · rw [upd_ne ne3]
            exact s' _ _ hl10
        | some w =>
          refine ⟨_, rfl, _, rfl, _, _, rfl, rfl, _, rfl, _, rfl, _, rfl, by show 2 ≤ sizeLine; decide, fun b4 hb4 => ?_⟩
          have s4 := same_new (o := .tup [.str X, .str Y]) hb4
          have ge := (f10.same s4).get xD yD upd_same
          rw [e3] at ge
          refine ⟨e, _, rfl, ge, _, _, rfl, rfl, _, rfl, ?_⟩
          have f11 := f10.same s4
          have s11 := s10.trans s4
          have hl11 := s4 _ _ hl10
          generalize upd H10 b4 _ = H11 at f11 s11 hl11 ⊢
          clear ge f10 s10 hl10 s4 hb4 H10
          refine iteB (fun ch => ?_) (fun ch => ?_)
          · skip
            refine ⟨_, rfl, _, rfl, _, _, rfl, rfl, _, rfl, _, rfl, _, rfl, by show 2 ≤ sizeLine; decide, fun b hb => ?_⟩
            have s' := same_new (o := .tup [.str X, .str Y]) hb
            obtain ⟨o, dp, f'⟩ := (f11.same s').put (c := some (u + v)) xD yD upd_same
            refine ⟨e, _, rfl, dp, ?_⟩
            refine done _ _ _ ?_ (fun q o hq => ?_) ?_
            · rw [relax_yes (by rw [e1, e2, e3]; exact ch), e1, e2]
              exact f'
            · rw [upd_ne (ne_of_none hq hne)]
              exact s' _ _ (s11 _ _ hq)
            · rw [upd_ne ne3]
              exact s' _ _ hl11
          · exact done H11 _ _ (by rw [relax_no (by rw [e1, e2, e3]; exact ch)]; exact f11) s11 hl11
      · rintro σ H9 ⟨⟨o5, o8, o9, o10, rfl⟩, f8, s8, hl8⟩
        rw [List.length_map, List.take_length] at f8
        exact ⟨⟨_, _, _, _, _, rfl⟩, f8, s8, hl8⟩
    · rintro σ H9 ⟨⟨o5, o7, o8, o9, o10, rfl⟩, f8, s8, hl8⟩
      rw [List.length_map, List.take_length] at f8
      exact ⟨⟨_, _, _, _, _, _, rfl⟩, f8, s8, hl8⟩
  · rintro σ H9 ⟨⟨o5, o6, o7, o8, o9, o10, rfl⟩, f8, s8, hl8⟩
    rw [List.length_map, List.take_length] at f8
    exact ⟨_, rfl, q e H9 s8 hne f8⟩
end
end KC

namespace KC
open PySem L2 Gd Fw KM
theorem same_free {H H' : Hp} {D : Addr} (s : Same H H') (h : H' D = none) : H D = none := by
  cases e : H D with
  | none => rfl
  | some o =>
    rw [s _ _ e] at h
    exact nomatch h
theorem low_asc {c : Nat} (h : low c = true) : c < 128 := by
  unfold low at h
  simp at h
  omega
abbrev chn (cs : List Nat) (p : Fn Str) : Fw.Cn Str := (runC (symL cs) (symL cs) (p, c0)).2
theorem jn_of {cs : List Nat} {p : Fn Str} (al : Alp cs) (pp : Prc (symL cs) p) : ∃ S, (∀ z ∈ symL cs, z ∈ S) ∧ Jn p S (symL cs) (spn cs p, chn cs p) := by
  have J := run_jn al.nds (symL cs) [] (p, c0) (fun z hz => hz) (fun z hz => nomatch hz) (start_jn pp.di pp.nn)
  have e : Fw.runC (symL cs) (symL cs) (p, c0) = (spn cs p, chn cs p) := by
    show Fw.runC _ _ _ = (Fw.run (symL cs) (symL cs) p, (Fw.runC (symL cs) (symL cs) (p, c0)).2)
    rw [← runC_fst (symL cs) (symL cs) (p, c0)]
  rw [e] at J
  exact ⟨_, fun z hz => List.mem_append_left _ (List.mem_reverse.mpr hz), J⟩
/-- a text over the letters -/
def Ov (cs : List Nat) (t : Str) : Prop := ∀ c ∈ t.cps.toList, c ∈ cs
def spReqT : Sp := fun vs H Q _ => ∃ (t : Str) (cs : List Nat), vs = [.str t] ∧ Alp cs ∧ Ov cs t ∧ t.length ≤ 10000 ∧ ∀ H', Same H H' → Q .non H'
def spReqK (C : Addr) : Sp := fun vs H Q _ => ∃ (v : V) (t : Str) (cs : List Nat) (p : Fn Str), vs = [v, .str t] ∧ PrAt C H v cs p ∧ Alp cs ∧ Ov cs t ∧ t.length ≤ 10000 ∧ ∀ H', Same H H' → Q .non H'
section
variable {P : Program} {w : World} {K : PySem.W.Frag} {mg : Str → Option Value} {base : Heap}
abbrev srequire_text : Stmt := top 17
theorem screquire_text : FnScope ["value"] ["value"] (defScope srequire_text) := ⟨rfl, rfl, rfl, by decide +kernel, rfl, by decide +kernel, by decide +kernel⟩
theorem ok_reqt {f f1 : Addr} {fd fd1 : FuncData} (F : Fun K "require_text" "require_text" srequire_text f fd)
    (D_is_text : Df P w K mg base CX0 1 "is_text" f1 fd1 ["value"] (spAsk isTxt)) : FnG P w K mg base CX0 2 f fd ["value"] spReqT := by
  refine okG F screquire_text (fun vs H Q E h => ?_) (fun cdv A outer s H vs Q E hc hr h => ?_)
  · obtain ⟨t, cs, rfl, _⟩ := h
    rfl
  obtain ⟨t, cs, rfl, al, ov, tl, q⟩ := h
  refine ⟨_, (pss_one (ps_if (pt_not (pt_val (pe_d D_is_text hc (hr.mono (by omega)) (by rfl) (fun _ => passN) (pa_cons (pv 0) pa_nil))))
  (pss_one ps_never) pss_nil)), ?_⟩
  have lo : ∀ c ∈ t.cps.toList, low c = true := fun c hc => al.low c (ov c hc)
  refine ⟨_, rfl, .str t, rfl, pv_str, fun x e => ?_, fun H1 s1 => ⟨_, rfl, ?_⟩⟩
  · cases e
    exact ⟨by omega, fun c hc => low_asc (lo c hc)⟩
  · have e : isTxt (.str t) = true := List.all_eq_true.mpr lo
    rw [e]
    exact iteF (q _ s1)
abbrev srequire_known : Stmt := top 33
theorem screquire_known : FnScope ["prices", "letters", "letter"] ["prices", "letters"] (defScope srequire_known) := ⟨rfl, rfl, rfl, by decide +kernel, rfl, by decide +kernel, by decide +kernel⟩
theorem ok_reqk {C f f1 : Addr} {fd fd1 : FuncData} (F : Fun K "require_known" "require_known" srequire_known f fd)
    (D_Prices_alphabet : Dm P w K mg base CX0 1 C "alphabet" f1 fd1 ["self"] (spAlpha C)) : FnG P w K mg base CX0 2 f fd ["prices", "letters"] (spReqK C) := by
  refine okG F screquire_known (fun vs H Q E h => ?_) (fun cdv A outer s H vs Q E hc hr h => ?_)
  · obtain ⟨v, t, cs, p, rfl, _⟩ := h
    rfl
  obtain ⟨v, t, cs, p, rfl, pr, al, ov, tl, q⟩ := h
  refine ⟨_, (pss_one (ps_for (passes_of rfl) rfl (pi_str (pv 1)) (pg_name (i := 2) screquire_known.nd rfl (Or.inl rfl))
  (pss_one (ps_if (pt_cmpR op_notIn_sign (pv 2) (pe_mt0 D_Prices_alphabet hc (hr.mono (by omega)) (fun _ => passN) (pv 0)) (by rfl))
  (pss_one ps_never) pss_nil)))), ?_⟩
  have z := sizeLine_eq
  refine ⟨_, rfl, t, rfl, ?_⟩
  refine L2.for_it walk_str (fun i σ H' => (∃ o : Option V, σ = [some v, some (.str t), o]) ∧ Same H H') ⟨⟨_, rfl⟩, Same.refl _⟩ (fun _ _ _ _ _ => trivial) ?_ ?_
  · rintro i y σ H2 _ lt ⟨⟨o, rfl⟩, s2⟩ ⟨e, c, hcc, rfl⟩
    rename_i H2
    subst e
    have mc : c ∈ t.cps.toList := List.mem_of_getElem? (by rw [Array.getElem?_toList]; exact hcc)
    have pr2 := pr.same s2
    obtain ⟨a0, dx, d0, d1, d2, m, rfl, ha0, _⟩ := id pr2
    refine ⟨_, rfl, _, rfl, a0, dx, _, rfl, ha0, rfl, .ref a0, cs, p, rfl, pr2, c, alph cs, rfl, rfl, _, rfl, ?_⟩
    have e : (!decide (c ∈ (alph cs).cps.toList)) = false := by
      have : c ∈ (alph cs).cps.toList := by
        show c ∈ cs.toArray.toList
        simpa using ov c mc
      rw [decide_eq_true this]
      rfl
    rw [e]
    exact iteF ⟨⟨_, rfl⟩, s2⟩
  · rintro σ H2 ⟨⟨o, rfl⟩, s2⟩
    exact q _ s2
abbrev srequire_text_over : Stmt := top 34
theorem screquire_text_over : FnScope ["prices", "text"] ["prices", "text"] (defScope srequire_text_over) := ⟨rfl, rfl, rfl, by decide +kernel, rfl, by decide +kernel, by decide +kernel⟩
theorem ok_reqo {C f f1 f2 : Addr} {fd fd1 fd2 : FuncData} (F : Fun K "require_text_over" "require_text_over" srequire_text_over f fd)
    (D_require_text : Df P w K mg base CX0 2 "require_text" f1 fd1 ["value"] spReqT) (D_require_known : Df P w K mg base CX0 2 "require_known" f2 fd2 ["prices", "letters"] (spReqK C)) : FnG P w K mg base CX0 3 f fd ["prices", "text"] (spReqK C) := by
  refine okG F screquire_text_over (fun vs H Q E h => ?_) (fun cdv A outer s H vs Q E hc hr h => ?_)
  · obtain ⟨v, t, cs, p, rfl, _⟩ := h
    rfl
  obtain ⟨v, t, cs, p, rfl, pr, al, ov, tl, q⟩ := h
  refine ⟨_, (pss_cons (ps_expr (pe_d D_require_text hc (hr.mono (by omega)) (by rfl) (fun _ => passN) (pa_cons (pv 1) pa_nil)))
 (pss_one (ps_expr (pe_d D_require_known hc (hr.mono (by omega)) (by rfl) (fun _ => passN) (pa_cons (pv 0) (pa_cons (pv 1) pa_nil)))))), ?_⟩
  refine ⟨_, rfl, t, cs, rfl, al, ov, tl, fun H1 s1 => ?_⟩
  exact ⟨_, rfl, _, rfl, v, t, cs, p, rfl, pr.same s1, al, ov, tl, fun H2 s2 => q _ (s1.trans s2)⟩
def spReqPr (C : Addr) : Sp := fun vs H Q _ => ∃ v cs p, vs = [v] ∧ PrAt C H v cs p ∧ Q .non H
abbrev srequire_prices : Stmt := top 32
theorem screquire_prices : FnScope ["value"] ["value"] (defScope srequire_prices) := ⟨rfl, rfl, rfl, by decide +kernel, rfl, by decide +kernel, by decide +kernel⟩
theorem ok_reqp {C f : Addr} {fd : FuncData} (F : Fun K "require_prices" "require_prices" srequire_prices f fd) (T : Txt mg base) (TC_Prices : ClsT K C) (TM_Prices : ∃ u, mg "Prices" = some u ∧ RelV (.ref C) u) : FnG P w K mg base CX0 2 f fd ["value"] (spReqPr C) := by
  refine okG F screquire_prices (fun vs H Q E h => ?_) (fun cdv A outer s H vs Q E hc hr h => ?_)
  · obtain ⟨v, cs, p, rfl, _⟩ := h
    rfl
  obtain ⟨v, cs, p, rfl, pr, q⟩ := h
  refine ⟨_, (pss_one (ps_if (pt_not (pt_val (pe_callB (call_isC TC_Prices) (by rfl) T.z_isinstance (by decide +kernel) (pa_cons (pv 0) (pa_cons (pe_k (by rfl) TM_Prices) pa_nil)))))
  (pss_one ps_never) pss_nil)), ?_⟩
  obtain ⟨a, dx, d0, d1, d2, m, rfl, ha, _⟩ := pr
  exact ⟨_, rfl, _, rfl, .inr ⟨a, dx, _, rfl, ha, _, rfl, iteF q⟩⟩
end
end KC

namespace Zn
open PySem PySem.Spec PyProof.Rows L2
/-! ### enumerate(text) -/
def Itet (x : Str) : It :=
  ⟨fun i _ => i < x.cps.size, fun i H v H' => ∃ T c, v = .ref T ∧ H T = none ∧ H' = upd H T (.tup [.int (i : Nat), .str ⟨#[c]⟩]) ∧ x.cps[i]? = some c, fun i _ => i = x.cps.size⟩
theorem turn_enumS {P : Program} {w : World} {K : PySem.W.Frag} {elts : List Expr} {kk : Nat} {tpos : Pos} (e it : Addr) (x : Str) (t : Tok) (ty : String) (hty : ty = "str_ascii_iterator" ∨ ty = "str_iterator") :
    Turn P w K (.Tuple elts kk tpos) (Itet x) [e, it] e (fun i h => (∃ old, IsEnum h e it ((i : Nat) : Int) old) ∧ h.IsStrIter it ty x t i ∧ e ≠ it) where
  mem := by simp
  obj := fun i h st b hb => by
    obtain ⟨⟨old, he⟩, ⟨o, ho, hc, hd⟩, _⟩ := st
    have e' : b = e ∨ b = it := by simpa using hb
    rcases e' with z | z
    · rw [z]; exact ⟨_, he, fun v q => nomatch q⟩
    · rw [z]; exact ⟨o, ho, fun v q => by rw [hd] at q; cases q⟩
  keep := fun i h h' st k => let ⟨⟨old, he⟩, ⟨o, ho, r⟩, hne⟩ := st; ⟨⟨old, k e (by simp) _ he⟩, ⟨o, k it (by simp) o ho, r⟩, hne⟩
  item := by
    intro X hP hw hK hc i pins s σ H E I hf st hg
    subst hP hw hK
    obtain ⟨⟨old, he⟩, hit, hne⟩ := st
    have hel : e < s.heap.objs.size := Heap.lt_size he
    have hil : it < s.heap.objs.size := by obtain ⟨_, q, _⟩ := hit; exact Heap.lt_size q
    have D : Draws X.prog X.w X.A.in1 it [it] x.cps.size (fun i v => ∃ c u, x.cps[i]? = some c ∧ v = .str ⟨#[c]⟩ u) (fun i h => h.IsStrIter it ty x t i) := by
      rcases hty with e | e
      · rw [e]; exact Draws.strAscii (A := X.A.in1) (I.ok.hd hc) it x t
      · rw [e]; exact Draws.strWide (A := X.A.in1) (I.ok.hd hc) it x t
    refine wpAny_pyNext_enum_itemD D he hit hg hne (by simpa using hne) fun u h' tk hu ho hit' hT hsz hk => ?_
    obtain ⟨c, uc, hcx, rfl⟩ := hu
    refine ⟨_, rfl, wpAny_letOwnedTupleGo_enum (s := { s with heap := h', toks := tk + 1 }) ho fun h'' he' sb => ?_⟩
    have hT2 : h''.get? s.heap.objs.size = some { cls := .type "tuple", data := .seq #[.int i tk, .str ⟨#[c]⟩ uc] } := (sb.2 _ (Nat.ne_of_gt hel)).trans hT
    have new : ObjOk X.prog X.w (upd H s.heap.objs.size (.tup [.int (i : Nat), .str ⟨#[c]⟩])) h'' s.heap.objs.size (.tup [.int (i : Nat), .str ⟨#[c]⟩]) :=
      ⟨by show 2 ≤ sizeLine; decide, [.int i tk, .str ⟨#[c]⟩ uc], .cons ⟨_, rfl⟩ (.cons ⟨_, rfl⟩ .nil), ⟨_, hT2, rfl, _, rfl⟩⟩
    have I1 : Inv X pins σ (upd H s.heap.objs.size (.tup [.int (i : Nat), .str ⟨#[c]⟩])) { s with heap := h'', toks := tk + 1 } :=
      I.turnedNew (ch := [e, it]) (fun b ob hb q => (sb.2 b (fun z => hb (by simp [z]))).trans (hk b ob (fun z => hb (by simp [z])) (fun z => hb (by simp [z])) q)) hf (Nat.le_refl _) new
    refine ⟨.ref s.heap.objs.size, _, I1, rfl, ⟨_, c, rfl, I.hok.fresh (Nat.le_refl _), rfl, hcx⟩, ⟨⟨.str ⟨#[c]⟩ uc, ?_⟩, ?_, hne⟩, fun b hb => ?_⟩
    · have e1 : ((i + 1 : Nat) : Int) = (i : Int) + 1 := by omega
      rw [e1]; exact he'
    · obtain ⟨o, q, r⟩ := hit'
      exact ⟨o, (sb.2 it (Ne.symm hne)).trans q, r⟩
    · have hb' : b < s.heap.objs.size := by
        have e' : b = e ∨ b = it := by simpa using hb
        rcases e' with z | z
        · rw [z]; exact hel
        · rw [z]; exact hil
      rw [upd_ne (Nat.ne_of_lt hb')]
      exact (hf b hb).1
  done := by
    intro X hP hw hK hc i pins s σ H E I hf st hg
    subst hP hw hK
    obtain ⟨⟨old, he⟩, hit, hne⟩ := st
    have D : Draws X.prog X.w X.A.in1 it [it] x.cps.size (fun i v => ∃ c u, x.cps[i]? = some c ∧ v = .str ⟨#[c]⟩ u) (fun i h => h.IsStrIter it ty x t i) := by
      rcases hty with e | e
      · rw [e]; exact Draws.strAscii (A := X.A.in1) (I.ok.hd hc) it x t
      · rw [e]; exact Draws.strWide (A := X.A.in1) (I.ok.hd hc) it x t
    have hi : i = x.cps.size := hg
    rw [hi] at he hit
    obtain ⟨f0, f1, f2, f3, f4, f5⟩ := hf it (by simp)
    exact wpAny_pyNext_enum_endD D he hit fun h' eb => ⟨rfl, I.turned (t' := s.toks) (fun b o hb q => eb b o hb q) f0 f1 f3 f4 f5⟩
  self := fun A i s Q E st h => let ⟨⟨_, he⟩, _⟩ := st; wpAny_pyIter_enum he h
def iEnumS (ta : TA) : TI := fun σ H R => ta σ H fun vs H1 => ∃ x, vs = [.str x] ∧ R (Itet x) H1
theorem pi_enumS {X : Cx} {e : Expr} {ta : TA} {p pos tpos : Pos} {elts : List Expr} {kk : Nat} (hg : Gl X "enumerate") (hm : X.mg "enumerate" = none) (ha : PA X [e] ta) (hs : starEach [e] X.env = [(false, eval e X.env)] := by rfl) :
    PI X (.Tuple elts kk tpos) (.Call (.Name "enumerate" p) [e] [] pos) (iEnumS ta) := by
  refine ⟨fun pins s σ H R I h => ?_⟩
  refine Call_ (ld_blt I hg hm boot_enumerate (PyProof.Rows.callWith_type1 (thn (ha.run pos pins s σ H _ I h) fun us s1 ⟨vs, H1, I1, r1, q1⟩ => ?_) hs rfl))
  obtain ⟨x, ex, q⟩ := q1
  subst ex
  cases r1 with
  | cons r rr =>
    cases rr
    obtain ⟨t, rfl⟩ := r
    refine call_enumerate_str fun h' he hit hsz hk => wpAny_pyIter_enum he ?_
    have I2 : Inv X pins σ H1 { s1 with heap := h' } := I1.kept (t' := s1.toks) hk
    have hty : strIterType x = "str_ascii_iterator" ∨ strIterType x = "str_iterator" := by unfold strIterType; split <;> simp
    refine ⟨s1.heap.objs.size + 1, [s1.heap.objs.size + 1, s1.heap.objs.size], _, _, H1, rfl, I2, turn_enumS (s1.heap.objs.size + 1) s1.heap.objs.size x t _ hty, ⟨⟨.none, he⟩, hit, Nat.succ_ne_self _⟩, fun b hb => ?_, q⟩
    have e' : b = s1.heap.objs.size + 1 ∨ b = s1.heap.objs.size := by simpa using hb
    have hle : s1.heap.objs.size ≤ b := by
      rcases e' with z | z
      · rw [z]; exact Nat.le_add_right _ _
      · rw [z]; exact Nat.le_refl _
    exact I1.fpOk hle (I1.hok.fresh hle)
end Zn

/-! heapq.heappush and heappop of a list of tuples of ints -/
namespace Hq
open PySem PySem.W PySem.Calls PyProof.Rows PySem.Spec L2
/-- an item on its way up -/
def up {α : Type} (lt : α → α → Bool) (l : List α) (pos : Nat) : List α :=
  if h : 0 < pos then match l[pos]?, l[(pos - 1) / 2]? with
    | some x, some p => if lt x p then up lt ((l.set ((pos - 1) / 2) x).set pos p) ((pos - 1) / 2) else l
    | _, _ => l
  else l
termination_by pos
decreasing_by omega
theorem sift_entry : entryFor table "_heapq.heapify.sift" = some Builtin.«_heapq.heapify.sift» := entryFor_of_tree (by kernel_rfl)
theorem sift_plain : plainId "_heapq.heapify.sift" = true := by decide +kernel
section
variable {prog : Program} {w : World} {A : Around}
/-- tuples of ints, apart from the list at a -/
def Its (h : Heap) (a : Addr) (key : Value → List Int) (l : List Value) : Prop := ∀ v ∈ l, ∃ b its, v = .ref b ∧ b ≠ a ∧ IsTup h b its ∧ IntsAre its.toList (key v)
abbrev lst (l : List Value) (n : Nat) : Obj := { cls := .type "list", data := .seq l.toArray n }
theorem up_run {R : Result → Shared → Prop} {a : Addr} {res : Value} {key : Value → List Int} (hu : A.units + 1 < cLine) : ∀ (pos : Nat) (l : List Value) (n : Nat) (s : Shared), s.heap.get? a = some (lst l n) → Its s.heap a key l → pos < l.length → l.length ≤ sizeLine →
    (∀ h' n', h'.get? a = some (lst (up (fun x y => HT.lexLt (key x) (key y)) l pos) n') → (∀ b o, b ≠ a → s.heap.get? b = some o → h'.get? b = some o) → R (.ok (.ret res)) { s with heap := h' }) →
    codeAny (model prog w) A (.builtin "_heapq.heapify.sift" ⟨[.ref a, .bool false, .bool false, rawInt pos, rawInt 0, res, rawInt (-1)], []⟩) R s := by
  intro pos
  induction pos using Nat.strongRecOn with
  | _ pos ih =>
    intro l n s hl hk hp hz hR
    refine codeAny_builtin sift_entry ?_
    rw [Around.under_plainId sift_plain _]
    unfold Builtin.«_heapq.heapify.sift»
    dsimp only [rawInt]
    simp only [Int.toNat_natCast, Bool.false_eq_true, if_false]
    refine wpAny_bind (m := _) ?_
    with_unfolding_all refine wpAny_bind (wpAny_seqItems (o := lst l n) hl rfl ?_)
    refine wpAny_pure ?_
    by_cases h0 : 0 < pos
    · rw [if_pos (show pos > Int.toNat 0 from h0)]
      have hq : (pos - 1) / 2 < l.length := by omega
      have ex : l.toArray[pos]? = some l[pos] := by simp [hp]
      have ep : l.toArray[(pos - 1) / 2]? = some l[(pos - 1) / 2] := by simp [hq]
      have at_ : ∀ {i : Nat} {v : Value} {Q : Value → Shared → Prop} {E : Value → Shared → Prop}, l.toArray[i]? = some v → Q v s → wpAny (model prog w) A.in1 (match l.toArray[i]? with
          | some v => pure v
          | none => unsupported "internal:_heapq.index") Q E s := fun {i v Q E} e q => by
        rw [e]
        exact wpAny_pure q
      refine wpAny_bind (m := _) ?_
      with_unfolding_all refine at_ ex ?_
      refine wpAny_bind (m := _) ?_
      with_unfolding_all refine at_ ep ?_
      refine wpAny_bind (m := _) ?_
      obtain ⟨b1, i1, e1, n1, t1, k1⟩ := hk _ (List.getElem_mem hp)
      obtain ⟨b2, i2, e2, n2, t2, k2⟩ := hk _ (List.getElem_mem hq)
      rw [e1, e2]
      have less : ∀ {Q : Bool → Shared → Prop} {E : Value → Shared → Prop}, Q (HT.lexLt (key l[pos]) (key l[(pos - 1) / 2])) s → wpAny (model prog w) A.in1 (holding [.ref b1, .ref b2] (do truthOfDropped (← richCompare .Lt (.ref b1) (.ref b2)))) Q E s := fun {Q E} q => by
        refine wpAny_holding (wpAny_bind ?_)
        have z := HT.lt_tupInts (prog := prog) (w := w) (A := A.in1) (E := E) (s := s) (Q := fun v s' => wpAny (model prog w) A.in1 (truthOfDropped v) Q E s') t1 t2 k1 k2 (by show A.units + 1 < cLine; exact hu) (by
          rw [← e1, ← e2] at *
          exact wpAny_truthy_bool q)
        exact z
      with_unfolding_all refine wpAny_bind (less ?_)
      refine wpAny_bind (m := _) ?_
      with_unfolding_all refine wpAny_bind (wpAny_seqItems (o := lst l n) hl rfl ?_)
      refine wpAny_pure ?_
      rw [if_neg (show ¬ (l.toArray.size != l.toArray.size) = true by simp)]
      refine wpAny_pure ?_
      have eu : up (fun x y => HT.lexLt (key x) (key y)) l pos = if HT.lexLt (key l[pos]) (key l[(pos - 1) / 2]) then up (fun x y => HT.lexLt (key x) (key y)) ((l.set ((pos - 1) / 2) l[pos]).set pos l[(pos - 1) / 2]) ((pos - 1) / 2) else l := by
        rw [up, dif_pos h0, List.getElem?_eq_getElem hp, List.getElem?_eq_getElem hq]
      cases c : HT.lexLt (key l[pos]) (key l[(pos - 1) / 2]) with
      | true =>
        rw [if_pos rfl]
        refine wpAny_bind (m := _) ?_
        with_unfolding_all refine wpAny_bind (m := _) ?_
        with_unfolding_all refine wpAny_bind (wpAny_seqItems (o := lst l n) hl rfl ?_)
        refine wpAny_pure ?_
        refine wpAny_bind (m := _) ?_
        with_unfolding_all refine at_ ep ?_
        refine wpAny_bind (m := _) ?_
        with_unfolding_all refine at_ ex ?_
        refine wpAny_updateSeq (o := lst l n) hl rfl ?_ ?_ ?_
        · have el : Obj.mapSeq (fun xs => (xs.setIfInBounds ((pos - 1) / 2) l[pos]).setIfInBounds pos l[(pos - 1) / 2]) (lst l n) = lst ((l.set ((pos - 1) / 2) l[pos]).set pos l[(pos - 1) / 2]) n := by
            simp [Obj.mapSeq, lst]
          have g0 : (s.heap.update a (Obj.mapSeq fun xs => (xs.setIfInBounds ((pos - 1) / 2) l[pos]).setIfInBounds pos l[(pos - 1) / 2])).get? a = some (lst ((l.set ((pos - 1) / 2) l[pos]).set pos l[(pos - 1) / 2]) n) := by
            rw [Heap.get?_update_self _ hl rfl, el]
          have g1 : ∀ b o, b ≠ a → s.heap.get? b = some o → (s.heap.update a (Obj.mapSeq fun xs => (xs.setIfInBounds ((pos - 1) / 2) l[pos]).setIfInBounds pos l[(pos - 1) / 2])).get? b = some o := fun b o hb e => by
            rw [Heap.get?_update_other _ _ (Ne.symm hb)]
            exact e
          refine wpAny_pure ⟨plainId_quiet sift_plain _, ?_⟩
          refine ih ((pos - 1) / 2) (by omega) _ n _ g0 (fun v hv => ?_) (by simp; omega) (by simp; exact hz) fun h' n' q1 q2 => ?_
          · have hv' : v ∈ l := by
              rcases List.mem_or_eq_of_mem_set hv with h | h
              · rcases List.mem_or_eq_of_mem_set h with h | h
                · exact h
                · rw [h]; exact List.getElem_mem hp
              · rw [h]; exact List.getElem_mem hq
            obtain ⟨b, its, r1, r2, r3, r4⟩ := hk v hv'
            refine ⟨b, its, r1, r2, ?_, r4⟩
            obtain ⟨o, z1, z2⟩ := r3
            exact ⟨o, g1 b o r2 z1, z2⟩
          · rw [c, if_pos rfl] at eu
            exact hR h' n' (by rw [eu]; exact q1) fun b o hb e => q2 b o hb (g1 b o hb e)
        · show l.toArray.size ≤ sizeLine
          simpa using hz
        · show ((l.toArray.setIfInBounds ((pos - 1) / 2) l[pos]).setIfInBounds pos l[(pos - 1) / 2]).size ≤ sizeLine + 1
          rw [Array.size_setIfInBounds, Array.size_setIfInBounds]
          simp
          omega
      | false =>
        rw [if_neg Bool.false_ne_true, if_pos (by decide)]
        rw [c, if_neg Bool.false_ne_true] at eu
        have z := hR s.heap n (by rw [eu]; exact hl) fun b o _ q => q
        exact wpAny_pure z
    · rw [if_neg (show ¬ pos > Int.toNat 0 from h0), if_pos (by decide)]
      have eu : up (fun x y => HT.lexLt (key x) (key y)) l pos = l := by rw [up, dif_neg h0]
      have z := hR s.heap n (by rw [eu]; exact hl) fun b o _ q => q
      exact wpAny_pure z
end
end Hq

namespace Hq
open PySem PySem.W PySem.Calls PyProof.Rows PySem.Spec L2
/-- the child that an item on its way down changes places with -/
def chd {α : Type} (lt : α → α → Bool) (l : List α) (pos : Nat) : Nat := match l[2 * pos + 1]?, l[2 * pos + 1 + 1]? with
  | some x, some y => if lt x y then 2 * pos + 1 else 2 * pos + 1 + 1
  | _, _ => 2 * pos + 1
/-- an item on its way down, and up again -/
def down {α : Type} (lt : α → α → Bool) (l : List α) (pos : Nat) : List α :=
  if h : pos < l.length / 2 then match l[pos]?, l[chd lt l pos]? with
    | some x, some c => down lt ((l.set (chd lt l pos) x).set pos c) (chd lt l pos)
    | _, _ => l
  else up lt l pos
termination_by l.length - pos
decreasing_by
  have : pos < chd lt l pos := by
    unfold chd
    split
    · split <;> omega
    · omega
  simp
  omega
section
variable {prog : Program} {w : World} {A : Around}
theorem down_run {R : Result → Shared → Prop} {a : Addr} {res : Value} {key : Value → List Int} (hu : A.units + 1 < cLine) : ∀ (k pos : Nat) (l : List Value) (n : Nat) (s : Shared), l.length - pos = k → s.heap.get? a = some (lst l n) → Its s.heap a key l → pos < l.length → l.length ≤ sizeLine →
    (∀ h' n', h'.get? a = some (lst (down (fun x y => HT.lexLt (key x) (key y)) l pos) n') → (∀ b o, b ≠ a → s.heap.get? b = some o → h'.get? b = some o) → R (.ok (.ret res)) { s with heap := h' }) →
    codeAny (model prog w) A (.builtin "_heapq.heapify.sift" ⟨[.ref a, .bool false, .bool true, rawInt pos, rawInt 0, res, rawInt (-1)], []⟩) R s := by
  intro k
  induction k using Nat.strongRecOn with
  | _ k ih =>
    intro pos l n s hk0 hl hk hp hz hR
    refine codeAny_builtin sift_entry ?_
    rw [Around.under_plainId sift_plain _]
    unfold Builtin.«_heapq.heapify.sift»
    dsimp only [rawInt]
    simp only [Int.toNat_natCast, Bool.false_eq_true, if_false, if_true]
    refine wpAny_bind (m := _) ?_
    with_unfolding_all refine wpAny_bind (wpAny_seqItems (o := lst l n) hl rfl ?_)
    refine wpAny_pure ?_
    have sz : l.toArray.size = l.length := by simp
    by_cases h0 : pos < l.length / 2
    · rw [if_pos (show pos < l.toArray.size / 2 by rw [sz]; exact h0)]
      have get : ∀ i (h : i < l.length), l.toArray[i]? = some l[i] := fun i h => by simp [h]
      have ex := get pos hp
      have at_ : ∀ {i : Nat} {v : Value} {Q : Value → Shared → Prop} {E : Value → Shared → Prop}, l.toArray[i]? = some v → Q v s → wpAny (model prog w) A.in1 (match l.toArray[i]? with
          | some v => pure v
          | none => unsupported "internal:_heapq.index") Q E s := fun {i v Q E} e q => by
        rw [e]
        exact wpAny_pure q
      have hL : 2 * pos + 1 < l.length := by omega
      -- what is left at a child
      have leaf : ∀ (ch : Nat) (hc : ch < l.length), pos < ch → chd (fun x y => HT.lexLt (key x) (key y)) l pos = ch → wpAny (model prog w) A.in1 (Sem.pure (Fin.again (.builtin "_heapq.heapify.sift" ⟨[.ref a, .bool false, .bool true, rawInt ch, rawInt 0, res, rawInt (-1)], []⟩)))
          (fun fin s' => match fin with
            | .done f => R (.ok f) s'
            | .again c' => c'.quiet = true ∧ codeAny (model prog w) A c' R s') (fun e s' => R (.error e) s')
          { s with heap := s.heap.update a (Obj.mapSeq fun xs => (xs.setIfInBounds ch l[pos]).setIfInBounds pos l[ch]) } := fun ch hc gt hs => by
        have el : Obj.mapSeq (fun xs => (xs.setIfInBounds ch l[pos]).setIfInBounds pos l[ch]) (lst l n) = lst ((l.set ch l[pos]).set pos l[ch]) n := by
          simp [Obj.mapSeq, lst]
        have g0 : (s.heap.update a (Obj.mapSeq fun xs => (xs.setIfInBounds ch l[pos]).setIfInBounds pos l[ch])).get? a = some (lst ((l.set ch l[pos]).set pos l[ch]) n) := by
          rw [Heap.get?_update_self _ hl rfl, el]
        have g1 : ∀ b o, b ≠ a → s.heap.get? b = some o → (s.heap.update a (Obj.mapSeq fun xs => (xs.setIfInBounds ch l[pos]).setIfInBounds pos l[ch])).get? b = some o := fun b o hb e => by
          rw [Heap.get?_update_other _ _ (Ne.symm hb)]
          exact e
        refine wpAny_pure ⟨plainId_quiet sift_plain _, ?_⟩
        refine ih (l.length - ch) (by omega) ch _ n _ (by simp) g0 (fun v hv => ?_) (by simp; omega) (by simp; exact hz) fun h' n' q1 q2 => ?_
        · have hv' : v ∈ l := by
            rcases List.mem_or_eq_of_mem_set hv with h | h
            · rcases List.mem_or_eq_of_mem_set h with h | h
              · exact h
              · rw [h]; exact List.getElem_mem hp
            · rw [h]; exact List.getElem_mem hc
          obtain ⟨b, its, r1, r2, r3, r4⟩ := hk v hv'
          refine ⟨b, its, r1, r2, ?_, r4⟩
          obtain ⟨o, z1, z2⟩ := r3
          exact ⟨o, g1 b o r2 z1, z2⟩
        · have eu : down (fun x y => HT.lexLt (key x) (key y)) l pos = down (fun x y => HT.lexLt (key x) (key y)) ((l.set ch l[pos]).set pos l[ch]) ch := by
            rw [down, dif_pos h0, hs, List.getElem?_eq_getElem hp, List.getElem?_eq_getElem hc]
          exact hR h' n' (by rw [eu]; exact q1) fun b o hb e => q2 b o hb (g1 b o hb e)
      by_cases h1 : 2 * pos + 1 + 1 < l.length
      · rw [if_pos (show 2 * pos + 1 + 1 < l.toArray.size by rw [sz]; exact h1)]
        refine wpAny_bind (m := _) ?_
        with_unfolding_all refine at_ (get _ hL) ?_
        refine wpAny_bind (m := _) ?_
        with_unfolding_all refine at_ (get _ h1) ?_
        refine wpAny_bind (m := _) ?_
        obtain ⟨b1, i1, e1, n1, t1, k1⟩ := hk _ (List.getElem_mem hL)
        obtain ⟨b2, i2, e2, n2, t2, k2⟩ := hk _ (List.getElem_mem h1)
        rw [e1, e2]
        have less : ∀ {Q : Bool → Shared → Prop} {E : Value → Shared → Prop}, Q (HT.lexLt (key l[2 * pos + 1]) (key l[2 * pos + 1 + 1])) s → wpAny (model prog w) A.in1 (holding [.ref b1, .ref b2] (do truthOfDropped (← richCompare .Lt (.ref b1) (.ref b2)))) Q E s := fun {Q E} q => by
          refine wpAny_holding (wpAny_bind ?_)
          have z := HT.lt_tupInts (prog := prog) (w := w) (A := A.in1) (E := E) (s := s) (Q := fun v s' => wpAny (model prog w) A.in1 (truthOfDropped v) Q E s') t1 t2 k1 k2 (by show A.units + 1 < cLine; exact hu) (by
            rw [← e1, ← e2] at *
            exact wpAny_truthy_bool q)
          exact z
        with_unfolding_all refine wpAny_bind (less ?_)
        refine wpAny_bind (m := _) ?_
        with_unfolding_all refine wpAny_bind (wpAny_seqItems (o := lst l n) hl rfl ?_)
        refine wpAny_pure ?_
        rw [if_neg (show ¬ (l.toArray.size != l.toArray.size) = true by simp)]
        refine wpAny_pure ?_
        have ec : chd (fun x y => HT.lexLt (key x) (key y)) l pos = if HT.lexLt (key l[2 * pos + 1]) (key l[2 * pos + 1 + 1]) then 2 * pos + 1 else 2 * pos + 1 + 1 := by
          unfold chd
          rw [List.getElem?_eq_getElem hL, List.getElem?_eq_getElem h1]
        cases c : HT.lexLt (key l[2 * pos + 1]) (key l[2 * pos + 1 + 1]) with
        | true =>
          rw [c, if_pos rfl] at ec
          rw [if_neg (by decide)]
          refine wpAny_bind (m := _) ?_
          with_unfolding_all refine wpAny_bind (m := _) ?_
          with_unfolding_all refine wpAny_bind (wpAny_seqItems (o := lst l n) hl rfl ?_)
          refine wpAny_pure ?_
          refine wpAny_bind (m := _) ?_
          with_unfolding_all refine at_ (get (2 * pos + 1) hL) ?_
          refine wpAny_bind (m := _) ?_
          with_unfolding_all refine at_ ex ?_
          refine wpAny_updateSeq (o := lst l n) hl rfl ?_ ?_ ?_
          · exact leaf (2 * pos + 1) hL (by omega) ec
          · show l.toArray.size ≤ sizeLine
            simpa using hz
          · show ((l.toArray.setIfInBounds _ _).setIfInBounds _ _).size ≤ sizeLine + 1
            rw [Array.size_setIfInBounds, Array.size_setIfInBounds]
            simp
            omega
        | false =>
          rw [c, if_neg Bool.false_ne_true] at ec
          rw [if_pos (by decide)]
          refine wpAny_bind (m := _) ?_
          with_unfolding_all refine wpAny_bind (m := _) ?_
          with_unfolding_all refine wpAny_bind (wpAny_seqItems (o := lst l n) hl rfl ?_)
          refine wpAny_pure ?_
          refine wpAny_bind (m := _) ?_
          with_unfolding_all refine at_ (get (2 * pos + 1 + 1) h1) ?_
          refine wpAny_bind (m := _) ?_
          with_unfolding_all refine at_ ex ?_
          refine wpAny_updateSeq (o := lst l n) hl rfl ?_ ?_ ?_
          · exact leaf (2 * pos + 1 + 1) h1 (by omega) ec
          · show l.toArray.size ≤ sizeLine
            simpa using hz
          · show ((l.toArray.setIfInBounds _ _).setIfInBounds _ _).size ≤ sizeLine + 1
            rw [Array.size_setIfInBounds, Array.size_setIfInBounds]
            simp
            omega
      · rw [if_neg (show ¬ 2 * pos + 1 + 1 < l.toArray.size by rw [sz]; exact h1)]
        have ec : chd (fun x y => HT.lexLt (key x) (key y)) l pos = 2 * pos + 1 := by
          unfold chd
          rw [List.getElem?_eq_getElem hL, List.getElem?_eq_none (by omega)]
        refine wpAny_bind (m := _) ?_
        with_unfolding_all refine wpAny_bind (m := _) ?_
        with_unfolding_all refine wpAny_bind (wpAny_seqItems (o := lst l n) hl rfl ?_)
        refine wpAny_pure ?_
        refine wpAny_bind (m := _) ?_
        with_unfolding_all refine at_ (get (2 * pos + 1) hL) ?_
        refine wpAny_bind (m := _) ?_
        with_unfolding_all refine at_ ex ?_
        refine wpAny_updateSeq (o := lst l n) hl rfl ?_ ?_ ?_
        · exact leaf (2 * pos + 1) hL (by omega) ec
        · show l.toArray.size ≤ sizeLine
          simpa using hz
        · show ((l.toArray.setIfInBounds _ _).setIfInBounds _ _).size ≤ sizeLine + 1
          rw [Array.size_setIfInBounds, Array.size_setIfInBounds]
          simp
          omega
    · rw [if_neg (show ¬ pos < l.toArray.size / 2 by rw [sz]; exact h0)]
      have eu : down (fun x y => HT.lexLt (key x) (key y)) l pos = up (fun x y => HT.lexLt (key x) (key y)) l pos := by rw [down, dif_neg h0]
      have z := up_run (prog := prog) (w := w) (A := A) (R := R) (res := res) hu pos l n s hl hk hp hz fun h' n' q1 q2 => hR h' n' (by rw [eu]; exact q1) q2
      exact wpAny_pure ⟨plainId_quiet sift_plain _, z⟩
end
end Hq

namespace Hq
open PySem PySem.W PySem.Calls PyProof.Rows PySem.Spec L2
theorem push_entry : entryFor table "_heapq.heappush" = some Builtin.«_heapq.heappush» := entryFor_of_tree (by kernel_rfl)
theorem push_kind : builtinKind "_heapq.heappush" = none := by kernel_rfl
theorem push_plain : plainId "_heapq.heappush" = true := by decide +kernel
theorem push_args (a b : Value) : argsOk "_heapq.heappush" ⟨[a, b], []⟩ := by unfold argsOk; kernel_rfl
theorem pop_entry : entryFor table "_heapq.heappop" = some Builtin.«_heapq.heappop» := entryFor_of_tree (by kernel_rfl)
theorem pop_kind : builtinKind "_heapq.heappop" = none := by kernel_rfl
theorem pop_plain : plainId "_heapq.heappop" = true := by decide +kernel
theorem pop_args (a : Value) : argsOk "_heapq.heappop" ⟨[a], []⟩ := by unfold argsOk; kernel_rfl
section
variable {prog : Program} {w : World} {A : Around} {E : Value → Shared → Prop} {s : Shared}
theorem fun_here {id : String} {B : Builtin} {args : List Value} {Q : Value → Shared → Prop} (kind : builtinKind id = none) (plain : plainId id = true) (entry : entryFor table id = some B) (ok : argsOk id ⟨args, []⟩)
    (h : wpAny (model prog w) A.in1 (B ⟨args, []⟩) (fun fin s' => match fin with
      | .done f => wants Q E (.ok f) s'
      | .again c' => c'.quiet = true ∧ codeAny (model prog w) A c' (wants Q E) s') (fun e s' => wants Q E (.error e) s') s) : wpAny (model prog w) A (call (.builtin id) args) Q E s := by
  refine wpAny_call (codeAny_call_builtin plain entry ?_)
  simp only [checkBuiltinCall, kind]
  cases hsig : Manifest.signature? id with
  | none => exact wpAny_pure h
  | some sig =>
    simp only [argsOk, hsig] at ok
    have h2 : Bind.checkArgs id sig ⟨args, []⟩ = pure () := ok
    show wpAny _ _ (Bind.checkArgs id sig ⟨args, []⟩) _ _ s
    rw [h2]
    exact wpAny_pure h
theorem push_call {a : Addr} {v : Value} {l : List Value} {n : Nat} {key : Value → List Int} {Q : Value → Shared → Prop} (hu : A.units + 1 < cLine) (hl : s.heap.get? a = some (lst l n)) (hk : Its s.heap a key (l ++ [v])) (hz : l.length < sizeLine)
    (hQ : ∀ h' n', h'.get? a = some (lst (up (fun x y => HT.lexLt (key x) (key y)) (l ++ [v]) l.length) n') → (∀ b o, b ≠ a → s.heap.get? b = some o → h'.get? b = some o) → Q .none { s with heap := h' }) :
    wpAny (model prog w) A (call (.builtin "_heapq.heappush") [.ref a, v]) Q E s := by
  refine fun_here push_kind push_plain push_entry (push_args _ _) ?_
  unfold Builtin.«_heapq.heappush»
  have ty : s.TypeIs (.ref a) "list" := ⟨_, hl, rfl⟩
  refine wpAny_bind (m := _) ?_
  with_unfolding_all refine wpAny_bind (wpAny_pure (a := ()) ?_)
  with_unfolding_all refine wpAny_bind (wpAny_pure (a := ()) ?_)
  refine wpAny_bind (m := _) ?_
  with_unfolding_all refine wpAny_bind (wpAny_isInstance ty AutoSeq1.sub_list_list ?_)
  rw [if_pos rfl]
  refine wpAny_pure (wpAny_pure ?_)
  refine wpAny_bind (wpAny_updateSeq (o := lst l n) hl rfl ?_ (by show l.toArray.size ≤ sizeLine; simp; omega) (by show (l.toArray.push v).size ≤ sizeLine + 1; simp; omega))
  have el : Obj.mapSeq (fun xs => xs.push v) (lst l n) = lst (l ++ [v]) (n + 1) := by
    simp [Obj.mapSeq, lst]
  have g0 : (s.heap.update a (Obj.mapSeq fun xs => xs.push v)).get? a = some (lst (l ++ [v]) (n + 1)) := by
    rw [Heap.get?_update_self _ hl rfl, el]
  have g1 : ∀ b o, b ≠ a → s.heap.get? b = some o → (s.heap.update a (Obj.mapSeq fun xs => xs.push v)).get? b = some o := fun b o hb e => by
    rw [Heap.get?_update_other _ _ (Ne.symm hb)]
    exact e
  refine wpAny_bind (m := _) ?_
  with_unfolding_all refine wpAny_bind (wpAny_seqItems (s := { s with heap := s.heap.update a (Obj.mapSeq fun xs => xs.push v) }) (o := lst (l ++ [v]) (n + 1)) g0 rfl ?_)
  refine wpAny_pure ?_
  rw [show (l ++ [v]).toArray.size - 1 = l.length by simp]
  refine wpAny_pure ⟨plainId_quiet sift_plain _, ?_⟩
  refine up_run (key := key) hu l.length (l ++ [v]) (n + 1) _ g0 (fun x hx => ?_) (by simp) (by simp; omega) fun h' n' q1 q2 => ?_
  · obtain ⟨b, its, r1, r2, r3, r4⟩ := hk x hx
    refine ⟨b, its, r1, r2, ?_, r4⟩
    obtain ⟨o, z1, z2⟩ := r3
    exact ⟨o, g1 b o r2 z1, z2⟩
  · exact hQ h' n' q1 fun b o hb e => q2 b o hb (g1 b o hb e)
/-- the list behind a pop: the last item goes to the front, then down -/
def popped {α : Type} (lt : α → α → Bool) (l : List α) : List α := match l.getLast? with
  | some z => if l.length = 1 then [] else down lt (l.dropLast.set 0 z) 0
  | none => []
theorem pop_call {a : Addr} {l : List Value} {n : Nat} {key : Value → List Int} {x : Value} {Q : Value → Shared → Prop} (hu : A.units + 1 < cLine) (hl : s.heap.get? a = some (lst l n)) (hk : Its s.heap a key l) (hz : l.length ≤ sizeLine) (hx : l[0]? = some x)
    (hQ : ∀ h' n', h'.get? a = some (lst (popped (fun x y => HT.lexLt (key x) (key y)) l) n') → (∀ b o, b ≠ a → s.heap.get? b = some o → h'.get? b = some o) → Q x { s with heap := h' }) :
    wpAny (model prog w) A (call (.builtin "_heapq.heappop") [.ref a]) Q E s := by
  refine fun_here pop_kind pop_plain pop_entry (pop_args _) ?_
  unfold Builtin.«_heapq.heappop»
  have ty : s.TypeIs (.ref a) "list" := ⟨_, hl, rfl⟩
  have n0 : l ≠ [] := fun z => by rw [z] at hx; exact nomatch hx
  have hlen : 0 < l.length := List.length_pos_iff.mpr n0
  have hlast : l.getLast? = some (l.getLast n0) := List.getLast?_eq_some_getLast n0
  have hback : l.toArray.back? = some (l.getLast n0) := by rw [List.back?_toArray]; exact hlast
  with_unfolding_all refine wpAny_bind (m := _) ?_
  with_unfolding_all refine wpAny_bind (wpAny_pure (a := Value.ref a) ?_)
  refine wpAny_bind (m := _) ?_
  with_unfolding_all refine wpAny_bind (wpAny_isInstance ty AutoSeq1.sub_list_list ?_)
  rw [if_pos rfl]
  refine wpAny_pure (wpAny_pure ?_)
  refine wpAny_bind (m := _) ?_
  with_unfolding_all refine wpAny_bind (wpAny_seqItems (o := lst l n) hl rfl ?_)
  refine wpAny_pure ?_
  rw [hback]
  dsimp only
  refine wpAny_bind (wpAny_updateSeq (o := lst l n) hl rfl ?_ (by show l.toArray.size ≤ sizeLine; simpa using hz) (by show l.toArray.pop.size ≤ sizeLine + 1; simp; omega))
  have el : Obj.mapSeq (fun xs => xs.pop) (lst l n) = lst l.dropLast (n + 1) := by
    have ne : ¬ l.length - 1 = l.length := by omega
    simp [Obj.mapSeq, lst, ne]
  have g0 : (s.heap.update a (Obj.mapSeq fun xs => xs.pop)).get? a = some (lst l.dropLast (n + 1)) := by
    rw [Heap.get?_update_self _ hl rfl, el]
  have g1 : ∀ b o, b ≠ a → s.heap.get? b = some o → (s.heap.update a (Obj.mapSeq fun xs => xs.pop)).get? b = some o := fun b o hb e => by
    rw [Heap.get?_update_other _ _ (Ne.symm hb)]
    exact e
  have ex : l[0] = x := by
    rw [List.getElem?_eq_getElem hlen] at hx
    exact Option.some.inj hx
  by_cases h1 : l.length = 1
  · rw [if_pos (by simp [h1])]
    obtain ⟨y, rfl⟩ := List.length_eq_one_iff.mp h1
    have ey : y = x := ex
    have ep : popped (fun x y => HT.lexLt (key x) (key y)) [y] = [] := rfl
    have z := hQ _ (n + 1) (by rw [ep]; exact g0) g1
    rw [← ey] at z
    exact wpAny_pure z
  · rw [if_neg (by simp [h1])]
    have dl : l.dropLast.length = l.length - 1 := by simp
    refine wpAny_bind (m := _) ?_
    have e0 : l.toArray[0]? = some x := by simp; exact hx
    have at_ : ∀ {Q : Value → Shared → Prop} {E : Value → Shared → Prop} {s' : Shared}, Q x s' → wpAny (model prog w) A.in1 (match l.toArray[0]? with
        | some v => pure v
        | none => unsupported "internal:_heapq.index") Q E s' := fun {Q E s'} q => by
      rw [e0]
      exact wpAny_pure q
    with_unfolding_all refine at_ ?_
    refine wpAny_bind (wpAny_updateSeq (s := { s with heap := s.heap.update a (Obj.mapSeq fun xs => xs.pop) }) (o := lst l.dropLast (n + 1)) g0 rfl ?_ (by show l.dropLast.toArray.size ≤ sizeLine; simp; omega) (by show (l.dropLast.toArray.setIfInBounds 0 _).size ≤ sizeLine + 1; rw [Array.size_setIfInBounds]; simp; omega))
    have el2 : Obj.mapSeq (fun xs => xs.setIfInBounds 0 (l.getLast n0)) (lst l.dropLast (n + 1)) = lst (l.dropLast.set 0 (l.getLast n0)) (n + 1) := by
      simp [Obj.mapSeq, lst]
    have q0 : ((s.heap.update a (Obj.mapSeq fun xs => xs.pop)).update a (Obj.mapSeq fun xs => xs.setIfInBounds 0 (l.getLast n0))).get? a = some (lst (l.dropLast.set 0 (l.getLast n0)) (n + 1)) := by
      rw [Heap.get?_update_self _ g0 rfl, el2]
    have q1 : ∀ b o, b ≠ a → s.heap.get? b = some o → ((s.heap.update a (Obj.mapSeq fun xs => xs.pop)).update a (Obj.mapSeq fun xs => xs.setIfInBounds 0 (l.getLast n0))).get? b = some o := fun b o hb e => by
      rw [Heap.get?_update_other _ _ (Ne.symm hb)]
      exact g1 b o hb e
    refine wpAny_pure ⟨plainId_quiet sift_plain _, ?_⟩
    refine down_run (key := key) hu _ 0 (l.dropLast.set 0 (l.getLast n0)) (n + 1) _ rfl q0 (fun v hv => ?_) (by simp; omega) (by simp; omega) fun h' n' z1 z2 => ?_
    · have hv' : v ∈ l := by
        rcases List.mem_or_eq_of_mem_set hv with h | h
        · exact List.dropLast_subset _ h
        · rw [h]; exact List.getLast_mem n0
      obtain ⟨b, its, r1, r2, r3, r4⟩ := hk v hv'
      refine ⟨b, its, r1, r2, ?_, r4⟩
      obtain ⟨o, y1, y2⟩ := r3
      exact ⟨o, q1 b o r2 y1, y2⟩
    · have ep : popped (fun x y => HT.lexLt (key x) (key y)) l = down (fun x y => HT.lexLt (key x) (key y)) (l.dropLast.set 0 (l.getLast n0)) 0 := by
        unfold popped
        rw [hlast]
        exact if_neg h1
      exact hQ h' n' (by rw [ep]; exact z1) fun b o hb e => z2 b o hb (q1 b o hb e)
end
end Hq

namespace Hq
section
variable {α β : Type} {f : α → β} {lt : β → β → Bool} {lt' : α → α → Bool}
theorem up_map (h : ∀ x y, lt (f x) (f y) = lt' x y) : ∀ (pos : Nat) (l : List α), up lt (l.map f) pos = (up lt' l pos).map f := by
  intro pos
  induction pos using Nat.strongRecOn with
  | _ pos ih =>
    intro l
    rw [up, up]
    by_cases h0 : 0 < pos
    · rw [dif_pos h0, dif_pos h0, List.getElem?_map, List.getElem?_map]
      cases l[pos]? with
      | none => rfl
      | some x =>
        cases l[(pos - 1) / 2]? with
        | none => rfl
        | some p =>
          show (if lt (f x) (f p) then _ else _) = List.map f (if lt' x p then _ else _)
          rw [h]
          cases lt' x p with
          | true =>
            rw [if_pos rfl, if_pos rfl, ← List.map_set, ← List.map_set]
            exact ih _ (by omega) _
          | false => rfl
    · rw [dif_neg h0, dif_neg h0]
theorem chd_map (h : ∀ x y, lt (f x) (f y) = lt' x y) (pos : Nat) (l : List α) : chd lt (l.map f) pos = chd lt' l pos := by
  unfold chd
  rw [List.getElem?_map, List.getElem?_map]
  cases l[2 * pos + 1]? with
  | none => rfl
  | some x =>
    cases l[2 * pos + 1 + 1]? with
    | none => rfl
    | some y =>
      show (if lt (f x) (f y) then _ else _) = (if lt' x y then _ else _)
      rw [h]
theorem chd_gt (lt : α → α → Bool) (l : List α) (pos : Nat) : pos < chd lt l pos := by
  unfold chd
  split
  · split <;> omega
  · omega
theorem down_map (h : ∀ x y, lt (f x) (f y) = lt' x y) : ∀ (k pos : Nat) (l : List α), l.length - pos = k → down lt (l.map f) pos = (down lt' l pos).map f := by
  intro k
  induction k using Nat.strongRecOn with
  | _ k ih =>
    intro pos l hk
    rw [down, down]
    by_cases h0 : pos < l.length / 2
    · rw [dif_pos h0, dif_pos (by rw [List.length_map]; exact h0), chd_map h, List.getElem?_map, List.getElem?_map]
      cases l[pos]? with
      | none => rfl
      | some x =>
        cases l[chd lt' l pos]? with
        | none => rfl
        | some c =>
          show down lt (((l.map f).set (chd lt' l pos) (f x)).set pos (f c)) (chd lt' l pos) = List.map f (down lt' ((l.set (chd lt' l pos) x).set pos c) (chd lt' l pos))
          rw [← List.map_set, ← List.map_set]
          have g := chd_gt lt' l pos
          exact ih (l.length - chd lt' l pos) (by omega) _ _ (by simp)
    · rw [dif_neg h0, dif_neg (by rw [List.length_map]; exact h0)]
      exact up_map h pos l
theorem popped_map (h : ∀ x y, lt (f x) (f y) = lt' x y) (l : List α) : popped lt (l.map f) = (popped lt' l).map f := by
  unfold popped
  rw [List.getLast?_map]
  cases l.getLast? with
  | none => rfl
  | some z =>
    show (if (l.map f).length = 1 then [] else _) = List.map f (if l.length = 1 then [] else _)
    rw [List.length_map]
    by_cases h1 : l.length = 1
    · rw [if_pos h1, if_pos h1]
      rfl
    · rw [if_neg h1, if_neg h1, ← List.map_dropLast, ← List.map_set]
      exact down_map h _ 0 _ rfl
end
end Hq
namespace Gd
open PySem PySem.Spec PyProof.Rows L2
/-- a tuple of ints -/
def TupI (H : Hp) (v : V) : Prop := ∃ (b : Addr) (ns : List Int), v = .ref b ∧ H b = some (.tup (ns.map V.int))
def intsOf : List V → List Int
  | .int i :: r => i :: intsOf r
  | _ :: r => intsOf r
  | [] => []
theorem ints_of : ∀ ns : List Int, intsOf (ns.map V.int) = ns
  | [] => rfl
  | n :: r => by
    show n :: intsOf (r.map V.int) = _
    rw [ints_of r]
/-- its ints, read off the heap -/
def kT (H : Hp) : V → List Int
  | .ref b => (match H b with
    | some (.tup xs) => intsOf xs
    | _ => [])
  | _ => []
def kR (H : Hp) : Value → List Int
  | .ref b => kT H (.ref b)
  | _ => []
def gR : V → Value
  | .ref b => .ref b
  | _ => .none
theorem kR_g (H : Hp) (v : V) : kR H (gR v) = kT H v := by
  cases v <;> rfl
theorem vals_g {H : Hp} : ∀ {xs : List V} {its : List Value}, Vals xs its → (∀ v ∈ xs, TupI H v) → its = xs.map gR
  | _, _, .nil, _ => rfl
  | _, _, .cons (a := x) (b := u) r rs, h => by
    obtain ⟨b, ns, rfl, _⟩ := h x List.mem_cons_self
    obtain rfl : u = Value.ref b := r
    rw [List.map_cons, ← vals_g rs fun v hv => h v (List.mem_cons_of_mem _ hv)]
    rfl
theorem vals_map {H : Hp} : ∀ {xs : List V}, (∀ v ∈ xs, TupI H v) → Vals xs (xs.map gR)
  | [], _ => .nil
  | x :: xs, h => by
    obtain ⟨b, ns, rfl, _⟩ := h x List.mem_cons_self
    exact .cons rfl (vals_map fun v hv => h v (List.mem_cons_of_mem _ hv))
abbrev ltT (H : Hp) (x y : V) : Bool := HT.lexLt (kT H x) (kT H y)
theorem ints_vals : ∀ {ns : List Int} {vs : List Value}, Vals (ns.map V.int) vs → IntsAre vs ns
  | [], _, r => by
    cases r
    exact .nil
  | n :: ns, _, r => by
    rw [List.map_cons] at r
    cases r with
    | cons h t =>
      obtain ⟨k, rfl⟩ := h
      exact .cons n k (ints_vals t)
theorem its_of {X : Cx} {pins : List (Addr × Obj)} {σ : L2.St} {H : Hp} {s : Shared} {a : Addr} {ys xs : List V} (I : Inv X pins σ H s) (ha : H a = some (.lst ys)) (h : ∀ v ∈ xs, TupI H v) : Hq.Its s.heap a (kR H) (xs.map gR) := by
  intro u hu
  obtain ⟨v, hv, rfl⟩ := List.mem_map.mp hu
  obtain ⟨b, ns, rfl, hb⟩ := h v hv
  obtain ⟨_, its, r, o, h1, h2, n, h3⟩ := (show ObjOk X.prog X.w H s.heap b (.tup (ns.map V.int)) from I.hok b _ hb)
  refine ⟨b, its.toArray, rfl, fun z => ?_, ⟨o, h1, h2, n, h3⟩, ?_⟩
  · rw [z, ha] at hb
    exact nomatch hb
  · have e : kR H (gR (.ref b)) = ns := by
      show kT H (.ref b) = ns
      show (match H b with
        | some (.tup xs) => intsOf xs
        | _ => []) = ns
      rw [hb]
      exact ints_of ns
    rw [e]
    exact ints_vals r
/-- heappush(heap, item) -/
def rPush : List V → Hp → VK → Prop := fun vs H Q => ∃ (a : Addr) (v : V) (xs : List V), vs = [.ref a, v] ∧ H a = some (.lst xs) ∧ (∀ x ∈ xs ++ [v], TupI H x) ∧ xs.length < sizeLine ∧ Q .non (upd H a (.lst (Hq.up (ltT H) (xs ++ [v]) xs.length)))
theorem up_len {α : Type} (lt : α → α → Bool) : ∀ (pos : Nat) (l : List α), (Hq.up lt l pos).length = l.length := by
  intro pos
  induction pos using Nat.strongRecOn with
  | _ pos ih =>
    intro l
    rw [Hq.up]
    by_cases h0 : 0 < pos
    · rw [dif_pos h0]
      split
      · split
        · rw [ih _ (by omega)]
          simp
        · rfl
      · rfl
    · rw [dif_neg h0]
theorem up_mem {α : Type} (lt : α → α → Bool) : ∀ (pos : Nat) (l : List α), ∀ x ∈ Hq.up lt l pos, x ∈ l := by
  intro pos
  induction pos using Nat.strongRecOn with
  | _ pos ih =>
    intro l x hx
    rw [Hq.up] at hx
    by_cases h0 : 0 < pos
    · rw [dif_pos h0] at hx
      cases e1 : l[pos]? with
      | none => rw [e1] at hx; exact hx
      | some y =>
        cases e2 : l[(pos - 1) / 2]? with
        | none => rw [e1, e2] at hx; exact hx
        | some p =>
          rw [e1, e2] at hx
          dsimp only at hx
          split at hx
          · have := ih _ (by omega) _ x hx
            rcases List.mem_or_eq_of_mem_set this with h | h
            · rcases List.mem_or_eq_of_mem_set h with h | h
              · exact h
              · rw [h]; exact List.mem_of_getElem? e1
            · rw [h]; exact List.mem_of_getElem? e2
          · exact hx
    · rw [dif_neg h0] at hx
      exact hx
theorem cr_push {X : Cx} (hu : X.A.units + 1 < cLine) : CallR X (.builtin "_heapq.heappush") rPush := by
  intro pins s σ H vs us Q I r h
  obtain ⟨a, v, xs, rfl, ha, ht, hz, q⟩ := h
  match us, r with
  | _, .cons ra (.cons rv .nil) =>
    cases ra
    obtain ⟨b, ns, rfl, hb⟩ := ht v (List.mem_append_right _ List.mem_cons_self)
    cases rv
    obtain ⟨_, its, n, rl, hl, e⟩ := I.lstM ha
    have ei := vals_g rl fun x hx => ht x (List.mem_append_left _ hx)
    subst ei
    have K := its_of I ha ht
    rw [List.map_append] at K
    refine Hq.push_call hu e K (by rw [List.length_map]; exact hz) fun h' n' g k => ?_
    have eu : Hq.up (fun x y => HT.lexLt (kR H x) (kR H y)) (xs.map gR ++ [Value.ref b]) (xs.map gR).length = (Hq.up (ltT H) (xs ++ [.ref b]) xs.length).map gR := by
      have z := Hq.up_map (f := gR) (lt := fun x y => HT.lexLt (kR H x) (kR H y)) (lt' := ltT H) (fun x y => by rw [kR_g, kR_g]) xs.length (xs ++ [.ref b])
      rw [List.map_append] at z
      rw [List.length_map]
      exact z
    rw [eu] at g
    have mem : ∀ x ∈ Hq.up (ltT H) (xs ++ [.ref b]) xs.length, TupI H x := fun x hx => ht x (up_mem _ _ _ x hx)
    have len : (Hq.up (ltT H) (xs ++ [.ref b]) xs.length).length ≤ sizeLine := by
      rw [up_len]
      simp
      omega
    exact ⟨.non, _, I.write (x := a) (e := a) (o := .lst (Hq.up (ltT H) (xs ++ [.ref b]) xs.length)) (t' := s.toks) (by rw [ha]; exact trivial) (.inl rfl) (fun b' u hb' hu' => k b' u hb' hu') ⟨_, g⟩ ⟨len, _, n', vals_map mem, g⟩, rfl, q⟩
theorem down_len {α : Type} (lt : α → α → Bool) : ∀ (k pos : Nat) (l : List α), l.length - pos = k → (Hq.down lt l pos).length = l.length := by
  intro k
  induction k using Nat.strongRecOn with
  | _ k ih =>
    intro pos l hk
    rw [Hq.down]
    by_cases h0 : pos < l.length / 2
    · rw [dif_pos h0]
      have g := Hq.chd_gt lt l pos
      split
      · rw [ih (l.length - Hq.chd lt l pos) (by omega) _ _ (by simp)]
        simp
      · rfl
    · rw [dif_neg h0]
      exact up_len lt pos l
theorem down_mem {α : Type} (lt : α → α → Bool) : ∀ (k pos : Nat) (l : List α), l.length - pos = k → ∀ x ∈ Hq.down lt l pos, x ∈ l := by
  intro k
  induction k using Nat.strongRecOn with
  | _ k ih =>
    intro pos l hk x hx
    rw [Hq.down] at hx
    by_cases h0 : pos < l.length / 2
    · rw [dif_pos h0] at hx
      have g := Hq.chd_gt lt l pos
      cases e1 : l[pos]? with
      | none => rw [e1] at hx; exact hx
      | some y =>
        cases e2 : l[Hq.chd lt l pos]? with
        | none => rw [e1, e2] at hx; exact hx
        | some p =>
          rw [e1, e2] at hx
          have := ih (l.length - Hq.chd lt l pos) (by omega) _ _ (by simp) x hx
          rcases List.mem_or_eq_of_mem_set this with h | h
          · rcases List.mem_or_eq_of_mem_set h with h | h
            · exact h
            · rw [h]; exact List.mem_of_getElem? e1
          · rw [h]; exact List.mem_of_getElem? e2
    · rw [dif_neg h0] at hx
      exact up_mem lt pos l x hx
theorem popped_len {α : Type} (lt : α → α → Bool) (l : List α) : (Hq.popped lt l).length = l.length - 1 := by
  unfold Hq.popped
  cases e : l.getLast? with
  | none =>
    rw [List.getLast?_eq_none_iff.mp e]
    rfl
  | some z =>
    by_cases h1 : l.length = 1
    · show (if l.length = 1 then _ else _ : List α).length = _
      rw [if_pos h1, h1]
      rfl
    · show (if l.length = 1 then _ else _ : List α).length = _
      rw [if_neg h1, down_len lt _ 0 _ rfl]
      simp
theorem popped_mem {α : Type} (lt : α → α → Bool) (l : List α) : ∀ x ∈ Hq.popped lt l, x ∈ l := by
  intro x hx
  unfold Hq.popped at hx
  cases e : l.getLast? with
  | none => rw [e] at hx; exact nomatch hx
  | some z =>
    rw [e] at hx
    have hx : x ∈ (if l.length = 1 then [] else Hq.down lt (l.dropLast.set 0 z) 0) := hx
    by_cases h1 : l.length = 1
    · rw [if_pos h1] at hx
      exact nomatch hx
    · rw [if_neg h1] at hx
      rcases List.mem_or_eq_of_mem_set (down_mem lt _ 0 _ rfl x hx) with h | h
      · exact List.dropLast_subset _ h
      · rw [h]; exact List.mem_of_getLast? e
/-- heappop(heap) -/
def rPop : List V → Hp → VK → Prop := fun vs H Q => ∃ (a : Addr) (x : V) (xs : List V), vs = [.ref a] ∧ H a = some (.lst xs) ∧ (∀ x ∈ xs, TupI H x) ∧ xs[0]? = some x ∧ Q x (upd H a (.lst (Hq.popped (ltT H) xs)))
theorem cr_pop {X : Cx} (hu : X.A.units + 1 < cLine) : CallR X (.builtin "_heapq.heappop") rPop := by
  intro pins s σ H vs us Q I r h
  obtain ⟨a, x, xs, rfl, ha, ht, hx, q⟩ := h
  obtain ⟨u, rfl, ru⟩ := vals1 r
  cases ru
  obtain ⟨hz, its, n, rl, hl, e⟩ := I.lstM ha
  have ei := vals_g rl ht
  subst ei
  have K := its_of I ha ht
  obtain ⟨b, ns, rfl, hb⟩ := ht x (List.mem_of_getElem? hx)
  refine Hq.pop_call hu e K (by rw [List.length_map]; exact hz) (x := Value.ref b) (by rw [List.getElem?_map, hx]; rfl) fun h' n' g k => ?_
  rw [Hq.popped_map (f := gR) (lt := fun x y => HT.lexLt (kR H x) (kR H y)) (lt' := ltT H) (fun x y => by rw [kR_g, kR_g]) xs] at g
  have mem : ∀ y ∈ Hq.popped (ltT H) xs, TupI H y := fun y hy => ht y (popped_mem _ _ y hy)
  have len : (Hq.popped (ltT H) xs).length ≤ sizeLine := by
    rw [popped_len]
    omega
  exact ⟨.ref b, _, I.write (x := a) (e := a) (o := .lst (Hq.popped (ltT H) xs)) (t' := s.toks) (by rw [ha]; exact trivial) (.inl rfl) (fun b' u hb' hu' => k b' u hb' hu') ⟨_, g⟩ ⟨len, _, n', vals_map mem, g⟩, rfl, q⟩
end Gd

namespace KC
open PySem L2 Gd Fw KM
def spReqTs (C : Addr) : Sp := fun vs H Q _ => ∃ v t u cs p, vs = [v, .str t, .str u] ∧ PrAt C H v cs p ∧ Alp cs ∧ Ov cs t ∧ t.length ≤ 10000 ∧ Ov cs u ∧ u.length ≤ 10000 ∧ ∀ H', Same H H' → Q .non H'
section
variable {P : Program} {w : World} {K : PySem.W.Frag} {mg : Str → Option Value} {base : Heap}
abbrev srequire_texts : Stmt := top 43
theorem screquire_texts : FnScope ["prices", "source", "target"] ["prices", "source", "target"] (defScope srequire_texts) := ⟨rfl, rfl, rfl, by decide +kernel, rfl, by decide +kernel, by decide +kernel⟩
theorem ok_reqts {C f f1 f2 : Addr} {fd fd1 fd2 : FuncData} (F : Fun K "require_texts" "require_texts" srequire_texts f fd)
    (D_require_prices : Df P w K mg base CX0 2 "require_prices" f1 fd1 ["value"] (spReqPr C)) (D_require_text_over : Df P w K mg base CX0 3 "require_text_over" f2 fd2 ["prices", "text"] (spReqK C)) : FnG P w K mg base CX0 4 f fd ["prices", "source", "target"] (spReqTs C) := by
  refine okG F screquire_texts (fun vs H Q E h => ?_) (fun cdv A outer s H vs Q E hc hr h => ?_)
  · obtain ⟨v, t, u, cs, p, rfl, _⟩ := h
    rfl
  obtain ⟨v, t, u, cs, p, rfl, pr, al, o1, l1, o2, l2, q⟩ := h
  refine ⟨_, (pss_cons (ps_expr (pe_d D_require_prices hc (hr.mono (by omega)) (by rfl) (fun _ => passN) (pa_cons (pv 0) pa_nil)))
 (pss_cons (ps_expr (pe_d D_require_text_over hc (hr.mono (by omega)) (by rfl) (fun _ => passN) (pa_cons (pv 0) (pa_cons (pv 1) pa_nil))))
 (pss_one (ps_expr (pe_d D_require_text_over hc (hr.mono (by omega)) (by rfl) (fun _ => passN) (pa_cons (pv 0) (pa_cons (pv 2) pa_nil))))))), ?_⟩
  refine ⟨_, rfl, v, cs, p, rfl, pr, ?_⟩
  refine ⟨_, rfl, _, rfl, v, t, cs, p, rfl, pr, al, o1, l1, fun H1 s1 => ?_⟩
  exact ⟨_, rfl, _, rfl, v, u, cs, p, rfl, pr.same s1, al, o2, l2, fun H2 s2 => q _ (s1.trans s2)⟩
end
end KC

set_option maxHeartbeats 1000000
namespace Hq
theorem swap_perm {α : Type} {l : List α} {i j : Nat} {x p : α} (hi : l[i]? = some p) (hj : l[j]? = some x) : ((l.set i x).set j p).Perm l := by
  obtain ⟨h1, rfl⟩ := List.getElem?_eq_some_iff.mp hi
  obtain ⟨h2, rfl⟩ := List.getElem?_eq_some_iff.mp hj
  exact List.set_set_perm h1 h2
theorem up_perm {α : Type} (lt : α → α → Bool) : ∀ (pos : Nat) (l : List α), (up lt l pos).Perm l := by
  intro pos
  induction pos using Nat.strongRecOn with
  | _ pos ih =>
    intro l
    rw [up]
    by_cases h0 : 0 < pos
    · rw [dif_pos h0]
      cases e1 : l[pos]? with
      | none => exact List.Perm.refl _
      | some x =>
        cases e2 : l[(pos - 1) / 2]? with
        | none => exact List.Perm.refl _
        | some p =>
          dsimp only
          split
          · exact (ih _ (by omega) _).trans (swap_perm e2 e1)
          · exact List.Perm.refl _
    · rw [dif_neg h0]
theorem chd_gt' {α : Type} (lt : α → α → Bool) (l : List α) (pos : Nat) : pos < chd lt l pos := by
  unfold chd
  split
  · split <;> omega
  · omega
theorem down_perm {α : Type} (lt : α → α → Bool) : ∀ (k pos : Nat) (l : List α), l.length - pos = k → (down lt l pos).Perm l := by
  intro k
  induction k using Nat.strongRecOn with
  | _ k ih =>
    intro pos l hk
    rw [down]
    by_cases h0 : pos < l.length / 2
    · rw [dif_pos h0]
      have g := chd_gt' lt l pos
      cases e1 : l[pos]? with
      | none => exact List.Perm.refl _
      | some x =>
        cases e2 : l[chd lt l pos]? with
        | none => exact List.Perm.refl _
        | some p =>
          exact (ih (l.length - chd lt l pos) (by omega) _ _ (by simp)).trans (swap_perm e2 e1)
    · rw [dif_neg h0]
      exact up_perm lt pos l
theorem popped_perm {α : Type} (lt : α → α → Bool) {l : List α} {x : α} (h : l[0]? = some x) : (x :: popped lt l).Perm l := by
  match l, h with
  | y :: r, h =>
    obtain rfl : y = x := Option.some.inj h
    unfold popped
    by_cases hr : r = []
    · subst hr
      exact List.Perm.refl _
    · have e := List.dropLast_concat_getLast hr
      have el : (y :: r).getLast? = some (r.getLast hr) := by
        rw [List.getLast?_cons, List.getLast?_eq_some_getLast hr]
        rfl
      rw [el]
      have n1 : (y :: r).length ≠ 1 := fun z => hr (List.length_eq_zero_iff.mp (by rw [List.length_cons] at z; omega))
      show (y :: (if (y :: r).length = 1 then _ else _ : List α)).Perm _
      rw [if_neg n1]
      have ed : (y :: r).dropLast = y :: r.dropLast := List.dropLast_cons_of_ne_nil hr
      rw [ed]
      refine .cons y ((down_perm lt _ 0 _ rfl).trans ?_)
      show (r.getLast hr :: r.dropLast).Perm r
      have : (r.dropLast ++ [r.getLast hr]).Perm r := by rw [e]
      exact (List.perm_append_comm (l₁ := [r.getLast hr])).trans this
end Hq
namespace Dk
open Fw
abbrev E := Int × Nat × Nat
structure St (α : Type) where
  f : Nat → Nat → Co
  g : Nat → Nat → Option (α × α × Nat × Nat)
  q : List E
def up2 {β : Type} (f : Nat → Nat → β) (i j : Nat) (v : β) : Nat → Nat → β := fun a b => if a = i ∧ b = j then v else f a b
theorem up2_same {β : Type} {f : Nat → Nat → β} {i j : Nat} {v : β} : up2 f i j v i j = v := if_pos ⟨rfl, rfl⟩
theorem up2_ne {β : Type} {f : Nat → Nat → β} {i j : Nat} {v : β} {a b : Nat} (h : ¬ (a = i ∧ b = j)) : up2 f i j v a b = f a b := if_neg h
section
variable {α : Type} (lt : E → E → Bool) (w : α → α → Co)
def push (q : List E) (e : E) : List E := Hq.up lt (q ++ [e]) q.length
theorem push_perm (q : List E) (e : E) : (push lt q e).Perm (e :: q) := (Hq.up_perm lt _ _).trans (List.perm_append_comm (l₂ := [e]))
/-- one edge tried -/
def relax (c : Int) (s j : Nat) (x y : α × Nat) (S : St α) : St α :=
  match csum (some c) (w x.1 y.1) with
  | some v => if cheap (some v) (S.f x.2 y.2) = true then ⟨up2 S.f x.2 y.2 (some v), up2 S.g x.2 y.2 (some (x.1, y.1, s, j)), push lt S.q (v, x.2, y.2)⟩ else S
  | none => S
def relaxR (c : Int) (s j : Nat) (x : α × Nat) (ys : List (α × Nat)) (S : St α) : St α := ys.foldl (fun S y => relax lt w c s j x y S) S
def relaxA (c : Int) (s j : Nat) (xs ys : List (α × Nat)) (S : St α) : St α := xs.foldl (fun S x => relaxR lt w c s j x ys S) S
variable (eo ee : Nat → List (α × Nat))
def pop1 (e : E) (S : St α) : St α :=
  if S.f e.2.1 e.2.2 = some e.1 then relaxA lt w e.1 e.2.1 e.2.2 (eo e.2.1) (ee e.2.2) ⟨S.f, S.g, Hq.popped lt S.q⟩ else ⟨S.f, S.g, Hq.popped lt S.q⟩
def step (S : St α) : St α := match S.q with
  | [] => S
  | e :: _ => pop1 lt w eo ee e S
def itn : Nat → St α → St α
  | 0, S => S
  | k + 1, S => itn k (step lt w eo ee S)
theorem itn_succ : ∀ (k : Nat) (S : St α), itn lt w eo ee (k + 1) S = step lt w eo ee (itn lt w eo ee k S)
  | 0, S => rfl
  | k + 1, S => by
    show itn lt w eo ee (k + 1) (step lt w eo ee S) = _
    rw [itn_succ k]
    rfl
theorem step_stop {S : St α} (h : S.q = []) : step lt w eo ee S = S := by
  unfold step
  rw [h]
theorem itn_stop : ∀ (k : Nat) {S : St α}, S.q = [] → itn lt w eo ee k S = S
  | 0, S, h => rfl
  | k + 1, S, h => by
    show itn lt w eo ee k (step lt w eo ee S) = _
    rw [step_stop lt w eo ee h, itn_stop k h]
theorem itn_add : ∀ (k d : Nat) (S : St α), itn lt w eo ee (k + d) S = itn lt w eo ee d (itn lt w eo ee k S)
  | 0, d, S => by rw [Nat.zero_add]; rfl
  | k + 1, d, S => by
    rw [show k + 1 + d = (k + d) + 1 by omega]
    show itn lt w eo ee (k + d) (step lt w eo ee S) = itn lt w eo ee d (itn lt w eo ee k (step lt w eo ee S))
    exact itn_add k d _
theorem itn_end {k d : Nat} {S : St α} (h1 : (itn lt w eo ee k S).q = []) (h2 : (itn lt w eo ee d S).q = []) : itn lt w eo ee k S = itn lt w eo ee d S := by
  rcases Nat.le_total k d with h | h
  · rw [show d = k + (d - k) by omega, itn_add, itn_stop lt w eo ee _ h1]
  · rw [show k = d + (k - d) by omega, itn_add, itn_stop lt w eo ee _ h2]
/-- an edge from (i', j') back to (i, j) -/
def Edge (i j i' j' : Nat) (x y : α) (k : Int) : Prop := (x, i) ∈ eo i' ∧ (y, j) ∈ ee j' ∧ w x y = some k
structure Hyp (n m W : Nat) : Prop where
  dec : ∀ {i j i' j' x y k}, Edge w eo ee i j i' j' x y k → i' ≤ n → j' ≤ m → i ≤ i' ∧ j ≤ j' ∧ i + j < i' + j'
  pos : ∀ {x y k}, w x y = some k → 0 ≤ k ∧ k ≤ W
structure Inv (n m W : Nat) (S : St α) : Prop where
  st : S.f n m = some 0
  ran : ∀ {i j c}, S.f i j = some c → i ≤ n ∧ j ≤ m ∧ 0 ≤ c ∧ c ≤ (W * (n + m - (i + j)) : Nat)
  no : ∀ {i j}, S.f i j = none → S.g i j = none
  en : S.g n m = none
  via : ∀ {i j c}, S.f i j = some c → (i = n ∧ j = m) ∨ ∃ x y i' j' k c', S.g i j = some (x, y, i', j') ∧ i' ≤ n ∧ j' ≤ m ∧ Edge w eo ee i j i' j' x y k ∧ S.f i' j' = some c' ∧ c' + k ≤ c
  qr : ∀ e ∈ S.q, e.2.1 ≤ n ∧ e.2.2 ≤ m
  rel : ∀ {i' j' c'}, S.f i' j' = some c' → (c', i', j') ∈ S.q ∨ ∀ i j x y k, Edge w eo ee i j i' j' x y k → Le (S.f i j) (some (c' + k))
def val (B : Nat) : Co → Nat
  | some c => c.toNat
  | none => B
def sumR (n : Nat) (h : Nat → Nat) : Nat := ((List.range n).map h).sum
theorem sumR_succ (n : Nat) (h : Nat → Nat) : sumR (n + 1) h = sumR n h + h n := by
  unfold sumR
  rw [List.range_succ, List.map_append, List.sum_append]
  simp
theorem sumR_congr {h k : Nat → Nat} : ∀ {n : Nat}, (∀ i < n, h i = k i) → sumR n h = sumR n k
  | 0, _ => rfl
  | n + 1, e => by rw [sumR_succ, sumR_succ, sumR_congr fun i hi => e i (by omega), e n (by omega)]
theorem sumR_one {h k : Nat → Nat} {a d : Nat} : ∀ {n : Nat}, a < n → (∀ i < n, i ≠ a → h i = k i) → h a + d ≤ k a → sumR n h + d ≤ sumR n k
  | n + 1, la, e, l => by
    rw [sumR_succ, sumR_succ]
    by_cases z : a = n
    · subst z
      rw [sumR_congr (h := h) (k := k) fun i hi => e i (by omega) (by omega)]
      omega
    · have := sumR_one (n := n) (by omega) (fun i hi ne => e i (by omega) ne) l
      rw [e n (by omega) (fun z' => z z'.symm)]
      omega
def cells (n m W : Nat) (f : Nat → Nat → Co) : Nat := sumR (n + 1) fun i => sumR (m + 1) fun j => val (W * (n + m - (i + j)) + 1) (f i j)
theorem cells_dec {n m W : Nat} {f : Nat → Nat → Co} {i j : Nat} {v : Co} (hi : i ≤ n) (hj : j ≤ m) (h : val (W * (n + m - (i + j)) + 1) v + 1 ≤ val (W * (n + m - (i + j)) + 1) (f i j)) : cells n m W (up2 f i j v) + 1 ≤ cells n m W f := by
  unfold cells
  refine sumR_one (a := i) (by omega) (fun a _ ne => sumR_congr fun b _ => by rw [up2_ne fun z => ne z.1]) ?_
  refine sumR_one (a := j) (by omega) (fun b _ ne => by rw [up2_ne fun z => ne z.2]) ?_
  rw [up2_same]
  exact h
def mu (n m W : Nat) (S : St α) : Nat := 2 * cells n m W S.f + S.q.length
variable {lt w eo ee}
variable {n m W : Nat}
/-- what holds while the edges from (s, j) are tried -/
structure Mid (n m W : Nat) (c : Int) (s t : Nat) (S0 S : St α) : Prop where
  st : S.f n m = some 0
  ran : ∀ {i j c}, S.f i j = some c → i ≤ n ∧ j ≤ m ∧ 0 ≤ c ∧ c ≤ (W * (n + m - (i + j)) : Nat)
  no : ∀ {i j}, S.f i j = none → S.g i j = none
  en : S.g n m = none
  via : ∀ {i j c}, S.f i j = some c → (i = n ∧ j = m) ∨ ∃ x y i' j' k c', S.g i j = some (x, y, i', j') ∧ i' ≤ n ∧ j' ≤ m ∧ Edge w eo ee i j i' j' x y k ∧ S.f i' j' = some c' ∧ c' + k ≤ c
  qr : ∀ e ∈ S.q, e.2.1 ≤ n ∧ e.2.2 ≤ m
  here : S.f s t = some c
  rel : ∀ {i' j' c'}, S.f i' j' = some c' → ¬ (i' = s ∧ j' = t) → (c', i', j') ∈ S.q ∨ ∀ i j x y k, Edge w eo ee i j i' j' x y k → Le (S.f i j) (some (c' + k))
  le : ∀ i j, Le (S.f i j) (S0.f i j)
  mu : mu n m W S ≤ mu n m W S0
  ql : cells n m W S.f + S.q.length ≤ cells n m W S0.f + S0.q.length
theorem relax_mid (hy : Hyp w eo ee n m W) {c : Int} {s t : Nat} {S0 S : St α} (I : Mid (w := w) (eo := eo) (ee := ee) n m W c s t S0 S) (hs : s ≤ n) (ht : t ≤ m) {x y : α × Nat} (hx : x ∈ eo s) (hyy : y ∈ ee t) :
    Mid (w := w) (eo := eo) (ee := ee) n m W c s t S0 (relax lt w c s t x y S) ∧ (∀ k, w x.1 y.1 = some k → Le ((relax lt w c s t x y S).f x.2 y.2) (some (c + k))) := by
  unfold relax
  cases ew : w x.1 y.1 with
  | none =>
    show Mid n m W c s t S0 S ∧ _
    exact ⟨I, fun k e => nomatch e⟩
  | some k =>
    show Mid n m W c s t S0 (if cheap (some (c + k)) (S.f x.2 y.2) = true then _ else _) ∧ ∀ k', some k = some k' → Le ((if cheap (some (c + k)) (S.f x.2 y.2) = true then _ else _ : St α).f x.2 y.2) (some (c + k'))
    have ed : Edge w eo ee x.2 y.2 s t x.1 y.1 k := ⟨hx, hyy, ew⟩
    obtain ⟨d1, d2, d3⟩ := hy.dec ed hs ht
    obtain ⟨k0, k1⟩ := hy.pos ew
    cases ch : cheap (some (c + k)) (S.f x.2 y.2) with
    | false =>
      rw [if_neg (fun z => nomatch z)]
      refine ⟨I, fun k' e => ?_⟩
      cases e
      exact cheap_false ch
    | true =>
      rw [if_pos rfl]
      obtain ⟨r1, r2, r3, r4⟩ := I.ran I.here
      have nst : ¬ (s = x.2 ∧ t = y.2) := by omega
      have nend : ¬ (n = x.2 ∧ m = y.2) := by omega
      have lev : ∀ a b, Le ((up2 S.f x.2 y.2 (some (c + k))) a b) (S.f a b) := fun a b => by
        by_cases z : a = x.2 ∧ b = y.2
        · rw [z.1, z.2, up2_same]
          exact cheap_le ch
        · rw [up2_ne z]
          exact Le.refl _
      have hub : c + k ≤ ((W * (n + m - (x.2 + y.2)) : Nat) : Int) := by
        have a1 : W * (n + m - (s + t)) + W ≤ W * (n + m - (x.2 + y.2)) := by
          have : n + m - (s + t) + 1 ≤ n + m - (x.2 + y.2) := by omega
          calc W * (n + m - (s + t)) + W = W * (n + m - (s + t) + 1) := by rw [Nat.mul_succ]
            _ ≤ _ := Nat.mul_le_mul (Nat.le_refl _) this
        omega
      have dec1 : cells n m W (up2 S.f x.2 y.2 (some (c + k))) + 1 ≤ cells n m W S.f := by
        refine cells_dec (by omega) (by omega) ?_
        show (c + k).toNat + 1 ≤ _
        cases ef : S.f x.2 y.2 with
        | none =>
          show _ ≤ W * (n + m - (x.2 + y.2)) + 1
          omega
        | some u =>
          rw [ef] at ch
          have l : c + k < u := of_decide_eq_true ch
          show _ ≤ u.toNat
          omega
      refine ⟨⟨?_, ?_, ?_, ?_, ?_, ?_, ?_, ?_, ?_, ?_, ?_⟩, ?_⟩
      · show up2 S.f _ _ _ n m = _
        rw [up2_ne nend]
        exact I.st
      · intro i j v
        show up2 S.f _ _ _ i j = _ → _
        intro e
        by_cases z : i = x.2 ∧ j = y.2
        · obtain ⟨rfl, rfl⟩ := z
          rw [up2_same] at e
          cases e
          exact ⟨by omega, by omega, by omega, hub⟩
        · rw [up2_ne z] at e
          exact I.ran e
      · intro i j
        show up2 S.f _ _ _ i j = _ → up2 S.g _ _ _ i j = _
        intro e
        by_cases z : i = x.2 ∧ j = y.2
        · rw [z.1, z.2, up2_same] at e
          exact nomatch e
        · rw [up2_ne z] at e ⊢
          exact I.no e
      · show up2 S.g _ _ _ n m = _
        rw [up2_ne nend]
        exact I.en
      · intro i j v
        show up2 S.f _ _ _ i j = _ → _ ∨ ∃ a b i' j' k' c', up2 S.g _ _ _ i j = _ ∧ _ ∧ _ ∧ _ ∧ up2 S.f _ _ _ i' j' = _ ∧ _
        intro e
        by_cases z : i = x.2 ∧ j = y.2
        · obtain ⟨rfl, rfl⟩ := z
          rw [up2_same] at e
          cases e
          refine .inr ⟨x.1, y.1, s, t, k, c, up2_same, hs, ht, ed, ?_, Int.le_refl _⟩
          rw [up2_ne nst]
          exact I.here
        · rw [up2_ne z] at e
          rcases I.via e with h | ⟨a, b, i', j', k', c', h1, h2, h3, h4, h5, h6⟩
          · exact .inl h
          · obtain ⟨c2, g1, g2⟩ := lev i' j' c' h5
            refine .inr ⟨a, b, i', j', k', c2, ?_, h2, h3, h4, g1, by omega⟩
            rw [up2_ne z]
            exact h1
      · intro e he
        rcases List.mem_cons.mp ((push_perm lt S.q _).mem_iff.mp he) with h | h
        · rw [h]
          exact ⟨by show x.2 ≤ n; omega, by show y.2 ≤ m; omega⟩
        · exact I.qr e h
      · show up2 S.f _ _ _ s t = _
        rw [up2_ne nst]
        exact I.here
      · intro i' j' c'
        show up2 S.f _ _ _ i' j' = _ → _ → _ ∈ push lt S.q _ ∨ ∀ i j x' y' k', _ → Le (up2 S.f _ _ _ i j) _
        intro e ne
        by_cases z : i' = x.2 ∧ j' = y.2
        · obtain ⟨rfl, rfl⟩ := z
          rw [up2_same] at e
          cases e
          exact .inl ((push_perm lt S.q _).mem_iff.mpr List.mem_cons_self)
        · rw [up2_ne z] at e
          rcases I.rel e ne with h | h
          · exact .inl ((push_perm lt S.q _).mem_iff.mpr (List.mem_cons_of_mem _ h))
          · exact .inr fun i j a b k' he => (lev i j).trans (h i j a b k' he)
      · intro i j
        exact (lev i j).trans (I.le i j)
      · refine Nat.le_trans ?_ I.mu
        unfold Dk.mu
        show 2 * cells n m _ (up2 S.f _ _ _) + (push lt S.q _).length ≤ _
        rw [(push_perm lt S.q _).length_eq, List.length_cons]
        omega
      · refine Nat.le_trans ?_ I.ql
        show cells n m _ (up2 S.f _ _ _) + (push lt S.q _).length ≤ _
        rw [(push_perm lt S.q _).length_eq, List.length_cons]
        omega
      · intro k' e
        cases e
        show Le (up2 S.f _ _ _ _ _) _
        rw [up2_same]
        exact Le.refl _
theorem relaxR_mid (hy : Hyp w eo ee n m W) {c : Int} {s t : Nat} {S0 : St α} (hs : s ≤ n) (ht : t ≤ m) {x : α × Nat} (hx : x ∈ eo s) : ∀ (ys : List (α × Nat)) {S : St α}, Mid (w := w) (eo := eo) (ee := ee) n m W c s t S0 S → (∀ y ∈ ys, y ∈ ee t) →
    Mid (w := w) (eo := eo) (ee := ee) n m W c s t S0 (relaxR lt w c s t x ys S) ∧ (∀ y ∈ ys, ∀ k, w x.1 y.1 = some k → Le ((relaxR lt w c s t x ys S).f x.2 y.2) (some (c + k))) ∧ ∀ i j, Le ((relaxR lt w c s t x ys S).f i j) (S.f i j)
  | [], S, I, _ => ⟨I, fun y h => (nomatch h), fun i j => Le.refl _⟩
  | y :: ys, S, I, h => by
    obtain ⟨I1, h1⟩ := relax_mid (lt := lt) hy I hs ht hx (h y List.mem_cons_self)
    have l1 : ∀ i j, Le ((relax lt w c s t x y S).f i j) (S.f i j) := fun i j => by
      unfold relax
      cases ew : csum (some c) (w x.1 y.1) with
      | none => exact Le.refl _
      | some v =>
        show Le ((if _ then _ else _ : St α).f i j) _
        by_cases ch : cheap (some v) (S.f x.2 y.2) = true
        · rw [if_pos ch]
          show Le (up2 S.f _ _ _ i j) _
          by_cases z : i = x.2 ∧ j = y.2
          · rw [z.1, z.2, up2_same]
            exact cheap_le ch
          · rw [up2_ne z]
            exact Le.refl _
        · rw [if_neg ch]
          exact Le.refl _
    obtain ⟨I2, h2, l2⟩ := relaxR_mid hy hs ht hx ys I1 fun z hz => h z (List.mem_cons_of_mem _ hz)
    refine ⟨I2, fun z hz k e => ?_, fun i j => (l2 i j).trans (l1 i j)⟩
    rcases List.mem_cons.mp hz with rfl | hz
    · exact (l2 _ _).trans (h1 k e)
    · exact h2 z hz k e
theorem relaxA_mid (hy : Hyp w eo ee n m W) {c : Int} {s t : Nat} {S0 : St α} (hs : s ≤ n) (ht : t ≤ m) : ∀ (xs : List (α × Nat)) {S : St α}, Mid (w := w) (eo := eo) (ee := ee) n m W c s t S0 S → (∀ x ∈ xs, x ∈ eo s) →
    Mid (w := w) (eo := eo) (ee := ee) n m W c s t S0 (relaxA lt w c s t xs (ee t) S) ∧ (∀ x ∈ xs, ∀ y ∈ ee t, ∀ k, w x.1 y.1 = some k → Le ((relaxA lt w c s t xs (ee t) S).f x.2 y.2) (some (c + k))) ∧ ∀ i j, Le ((relaxA lt w c s t xs (ee t) S).f i j) (S.f i j)
  | [], S, I, _ => ⟨I, fun y h => (nomatch h), fun i j => Le.refl _⟩
  | x :: xs, S, I, h => by
    obtain ⟨I1, h1, l1⟩ := relaxR_mid (lt := lt) hy hs ht (h x List.mem_cons_self) (ee t) I fun y h => h
    obtain ⟨I2, h2, l2⟩ := relaxA_mid hy hs ht xs I1 fun z hz => h z (List.mem_cons_of_mem _ hz)
    refine ⟨I2, fun z hz y hyy k e => ?_, fun i j => (l2 i j).trans (l1 i j)⟩
    rcases List.mem_cons.mp hz with rfl | hz
    · exact (l2 _ _).trans (h1 y hyy k e)
    · exact h2 z hz y hyy k e
/-- what holds inside, at any point of a pop's loops -/
theorem pop_mid {S : St α} (I : Inv w eo ee n m W S) {e : E} {r : List E} (hq : S.q = e :: r) (he : S.f e.2.1 e.2.2 = some e.1) : Mid (w := w) (eo := eo) (ee := ee) n m W e.1 e.2.1 e.2.2 ⟨S.f, S.g, Hq.popped lt S.q⟩ ⟨S.f, S.g, Hq.popped lt S.q⟩ where
  st := I.st
  ran := I.ran
  no := I.no
  en := I.en
  via := I.via
  qr := fun z hz => I.qr z ((Hq.popped_perm lt (l := S.q) (x := e) (by rw [hq]; rfl)).mem_iff.mp (List.mem_cons_of_mem _ hz))
  here := he
  rel := fun {i' j' c'} h ne => by
    rcases I.rel h with h2 | h2
    · rcases List.mem_cons.mp ((Hq.popped_perm lt (l := S.q) (x := e) (by rw [hq]; rfl)).mem_iff.mpr h2) with h3 | h3
      · exact (ne (by rw [← h3]; exact ⟨rfl, rfl⟩)).elim
      · exact .inl h3
    · exact .inr h2
  le := fun i j => Le.refl _
  mu := Nat.le_refl _
  ql := Nat.le_refl _
theorem step_inv (hy : Hyp w eo ee n m W) {S : St α} (I : Inv w eo ee n m W S) : Inv w eo ee n m W (step lt w eo ee S) ∧ (S.q ≠ [] → mu n m W (step lt w eo ee S) < mu n m W S) ∧ cells n m W (step lt w eo ee S).f + (step lt w eo ee S).q.length ≤ cells n m W S.f + S.q.length := by
  unfold step
  cases hq : S.q with
  | nil =>
    refine ⟨I, fun h => (h rfl).elim, ?_⟩
    show cells n m W S.f + S.q.length ≤ _
    rw [hq]
    exact Nat.le_refl _
  | cons e r =>
    show Inv w eo ee n m W (pop1 lt w eo ee e S) ∧ (_ → mu n m W (pop1 lt w eo ee e S) < _) ∧ cells n m W (pop1 lt w eo ee e S).f + (pop1 lt w eo ee e S).q.length ≤ _
    have hp := Hq.popped_perm lt (l := S.q) (x := e) (by rw [hq]; rfl)
    have ml : mu n m W (⟨S.f, S.g, Hq.popped lt S.q⟩ : St α) < mu n m W S := by
      have := hp.length_eq
      rw [List.length_cons] at this
      show 2 * cells n m _ S.f + (Hq.popped lt S.q).length < 2 * cells n m _ S.f + S.q.length
      omega
    have pl : cells n m W S.f + (Hq.popped lt S.q).length ≤ cells n m W S.f + S.q.length := by
      have := hp.length_eq
      rw [List.length_cons] at this
      omega
    obtain ⟨e1, e2⟩ := I.qr e (by rw [hq]; exact List.mem_cons_self)
    unfold pop1
    by_cases he : S.f e.2.1 e.2.2 = some e.1
    · rw [if_pos he]
      obtain ⟨M, h1, h2⟩ := relaxA_mid (lt := lt) hy e1 e2 (eo e.2.1) (pop_mid (lt := lt) I hq he) fun x h => h
      refine ⟨⟨M.st, M.ran, M.no, M.en, M.via, M.qr, fun {i' j' c'} h => ?_⟩, fun _ => Nat.lt_of_le_of_lt M.mu ml, Nat.le_trans M.ql (by rw [← hq]; exact pl)⟩
      by_cases z : i' = e.2.1 ∧ j' = e.2.2
      · obtain ⟨rfl, rfl⟩ := z
        obtain rfl : c' = e.1 := Option.some.inj (h.symm.trans M.here)
        exact .inr fun i j x y k ed => h1 (x, i) ed.1 (y, j) ed.2.1 k ed.2.2
      · exact M.rel h z
    · rw [if_neg he]
      refine ⟨⟨I.st, I.ran, I.no, I.en, I.via, fun z hz => I.qr z (hp.mem_iff.mp (List.mem_cons_of_mem _ hz)), fun {i' j' c'} h => ?_⟩, fun _ => ml, by rw [← hq]; exact pl⟩
      rcases I.rel h with h2 | h2
      · rcases List.mem_cons.mp (hp.mem_iff.mpr h2) with h3 | h3
        · refine (he ?_).elim
          rw [← h3]
          exact h
        · exact .inl h3
      · exact .inr h2
theorem itn_inv (hy : Hyp w eo ee n m W) : ∀ (k : Nat) {S : St α}, Inv w eo ee n m W S → Inv w eo ee n m W (itn lt w eo ee k S)
  | 0, S, I => I
  | k + 1, S, I => itn_inv hy k (step_inv (lt := lt) hy I).1
theorem itn_done (hy : Hyp w eo ee n m W) : ∀ (k : Nat) {S : St α}, Inv w eo ee n m W S → mu n m W S ≤ k → (itn lt w eo ee k S).q = []
  | 0, S, I, h => by
    have : S.q.length ≤ 0 := by unfold mu at h; omega
    exact List.length_eq_zero_iff.mp (by show S.q.length = 0; omega)
  | k + 1, S, I, h => by
    obtain ⟨I', d, _⟩ := step_inv (lt := lt) hy I
    by_cases z : S.q = []
    · show (itn lt w eo ee k (step lt w eo ee S)).q = []
      rw [step_stop lt w eo ee z, itn_stop lt w eo ee k z]
      exact z
    · exact itn_done hy k I' (by have := d z; omega)
def start (n m : Nat) : St α := ⟨up2 (fun _ _ => none) n m (some 0), fun _ _ => none, push lt [] (0, n, m)⟩
theorem push_nil (e : E) : push lt [] e = [e] := by
  unfold push
  rw [List.nil_append, List.length_nil, Hq.up, dif_neg (by omega)]
theorem start_inv : Inv w eo ee n m W (start (lt := lt) (α := α) n m) where
  st := (up2_same : up2 (fun _ _ => none) n m (some 0) n m = some (0 : Int))
  ran := fun {i j c} h => by
    have h : up2 (fun _ _ => none) n m (some 0) i j = some c := h
    by_cases z : i = n ∧ j = m
    · obtain ⟨rfl, rfl⟩ := z
      rw [up2_same] at h
      cases h
      exact ⟨Nat.le_refl _, Nat.le_refl _, Int.le_refl _, by omega⟩
    · rw [up2_ne z] at h
      exact nomatch h
  no := fun _ => rfl
  en := rfl
  via := fun {i j c} h => by
    have h : up2 (fun _ _ => none) n m (some 0) i j = some c := h
    by_cases z : i = n ∧ j = m
    · exact .inl z
    · rw [up2_ne z] at h
      exact nomatch h
  qr := fun e he => by
    have he : e ∈ push lt [] (0, n, m) := he
    rw [push_nil] at he
    rw [List.mem_singleton.mp he]
    exact ⟨Nat.le_refl _, Nat.le_refl _⟩
  rel := fun {i j c} h => by
    have h : up2 (fun _ _ => none) n m (some 0) i j = some c := h
    by_cases z : i = n ∧ j = m
    · obtain ⟨rfl, rfl⟩ := z
      rw [up2_same] at h
      cases h
      refine .inl ?_
      show _ ∈ push lt [] (0, i, j)
      rw [push_nil]
      exact List.mem_cons_self
    · rw [up2_ne z] at h
      exact nomatch h
theorem itn_ql (hy : Hyp w eo ee n m W) : ∀ (k : Nat) {S : St α}, Inv w eo ee n m W S → cells n m W (itn lt w eo ee k S).f + (itn lt w eo ee k S).q.length ≤ cells n m W S.f + S.q.length
  | 0, S, I => Nat.le_refl _
  | k + 1, S, I => Nat.le_trans (itn_ql hy k (step_inv (lt := lt) hy I).1) (step_inv (lt := lt) hy I).2.2
theorem sumR_first (n : Nat) (h : Nat → Nat) : sumR (n + 1) h = h 0 + sumR n fun i => h (i + 1) := by
  induction n with
  | zero => rw [sumR_succ]; unfold sumR; simp
  | succ n ih => rw [sumR_succ, ih, sumR_succ]; omega
theorem sumR_lin (c W : Nat) : ∀ n : Nat, 2 * sumR (n + 1) (fun i => c + W * (n - i)) = (n + 1) * (2 * c + W * n)
  | 0 => by rw [sumR_succ]; unfold sumR; simp
  | n + 1 => by
    rw [sumR_first]
    have e : sumR (n + 1) (fun i => c + W * (n + 1 - (i + 1))) = sumR (n + 1) (fun i => c + W * (n - i)) := sumR_congr fun i _ => by rw [show n + 1 - (i + 1) = n - i by omega]
    rw [e, Nat.mul_add, sumR_lin c W n]
    rw [Nat.sub_zero]
    have h1 : W * (n + 1) = W * n + W := Nat.mul_succ W n
    rw [h1]
    generalize hx : W * n = x
    have h2 : (n + 1 + 1) * (2 * c + (x + W)) = (n + 1) * (2 * c + x) + (2 * c + x) + (n + 1) * W + W := by
      rw [Nat.succ_mul (n + 1), show 2 * c + (x + W) = (2 * c + x) + W by omega, Nat.mul_add]
      omega
    rw [h2]
    have h3 : (n + 1) * W = x + W := by rw [Nat.succ_mul, Nat.mul_comm, hx]
    rw [h3]
    omega
theorem cells_none (n m W : Nat) : 2 * cells n m W (fun _ _ => none) = (n + 1) * (m + 1) * (W * (n + m) + 2) := by
  unfold cells
  have inner : ∀ i < n + 1, 2 * sumR (m + 1) (fun j => val (W * (n + m - (i + j)) + 1) none) = (m + 1) * (2 + W * m) + 2 * (m + 1) * W * (n - i) := fun i hi => by
    have e : sumR (m + 1) (fun j => val (W * (n + m - (i + j)) + 1) none) = sumR (m + 1) (fun j => (W * (n - i) + 1) + W * (m - j)) := sumR_congr fun j hj => by
      show W * (n + m - (i + j)) + 1 = _
      rw [show n + m - (i + j) = (n - i) + (m - j) by omega, Nat.mul_add]
      omega
    rw [e, sumR_lin]
    generalize n - i = a
    grind
  have outer : 2 * sumR (n + 1) (fun i => 2 * sumR (m + 1) (fun j => val (W * (n + m - (i + j)) + 1) none)) = (n + 1) * (2 * ((m + 1) * (2 + W * m)) + 2 * (m + 1) * W * n) := by
    rw [sumR_congr inner, sumR_lin]
  have two : ∀ (h : Nat → Nat) (k : Nat), sumR k (fun i => 2 * h i) = 2 * sumR k h := fun h k => by
    induction k with
    | zero => rfl
    | succ k ih => rw [sumR_succ, sumR_succ, ih]; omega
  rw [two] at outer
  generalize sumR (n + 1) (fun i => sumR (m + 1) fun j => val (W * (n + m - (i + j)) + 1) none) = x at outer ⊢
  have : 2 * (2 * x) = 2 * ((n + 1) * (m + 1) * (W * (n + m) + 2)) := by
    rw [outer]
    grind
  omega
end
end Dk

namespace Dk
open Fw
section
variable {α : Type} {lt : E → E → Bool} {w : α → α → Co} {eo ee : Nat → List (α × Nat)} {n m W : Nat}
theorem relax_no {c : Int} {s j : Nat} {x y : α × Nat} {S : St α} (h : cheap (csum (some c) (w x.1 y.1)) (S.f x.2 y.2) = false) : relax lt w c s j x y S = S := by
  unfold relax
  cases e : csum (some c) (w x.1 y.1) with
  | none => rfl
  | some v =>
    rw [e] at h
    show (if cheap (some v) (S.f x.2 y.2) = true then _ else S) = S
    rw [if_neg (by rw [h]; exact fun z => nomatch z)]
theorem relax_yes {c : Int} {s j : Nat} {x y : α × Nat} {S : St α} {v : Int} (e : csum (some c) (w x.1 y.1) = some v) (h : cheap (csum (some c) (w x.1 y.1)) (S.f x.2 y.2) = true) :
    relax lt w c s j x y S = ⟨up2 S.f x.2 y.2 (some v), up2 S.g x.2 y.2 (some (x.1, y.1, s, j)), push lt S.q (v, x.2, y.2)⟩ := by
  unfold relax
  rw [e] at h ⊢
  show (if cheap (some v) (S.f x.2 y.2) = true then _ else S) = _
  rw [if_pos h]
theorem relaxR_take {c : Int} {s j : Nat} {x y : α × Nat} {ys : List (α × Nat)} {i : Nat} {S : St α} (h : ys[i]? = some y) : relaxR lt w c s j x (ys.take (i + 1)) S = relax lt w c s j x y (relaxR lt w c s j x (ys.take i) S) := by
  unfold relaxR
  rw [List.take_add_one, h, List.foldl_append]
  rfl
theorem relaxA_take {c : Int} {s j : Nat} {x : α × Nat} {xs ys : List (α × Nat)} {i : Nat} {S : St α} (h : xs[i]? = some x) : relaxA lt w c s j (xs.take (i + 1)) ys S = relaxR lt w c s j x ys (relaxA lt w c s j (xs.take i) ys S) := by
  unfold relaxA
  rw [List.take_add_one, h, List.foldl_append]
  rfl
theorem ent_le {z : α} {s : List α} {x : α} {i i' : Nat} (h : (x, i) ∈ (z, i') :: (match i' with
  | 0 => []
  | k + 1 => match s[k]? with
    | some c => [(c, k)]
    | none => [])) : i ≤ i' := by
  rcases List.mem_cons.mp h with h | h
  · cases h
    exact Nat.le_refl _
  · cases i' with
    | zero => exact nomatch h
    | succ k =>
      have h : (x, i) ∈ (match s[k]? with
        | some c => [(c, k)]
        | none => []) := h
      cases e : s[k]? with
      | none => rw [e] at h; exact nomatch h
      | some c =>
        rw [e] at h
        cases List.mem_singleton.mp h
        exact Nat.le_succ _
structure Best (w : α → α → Co) (eo ee : Nat → List (α × Nat)) (n m : Nat) (F : Nat → Nat → Co) : Prop where
  st : F n m = some 0
  le : ∀ {i j i' j' x y k}, i' ≤ n → j' ≤ m → Edge w eo ee i j i' j' x y k → Le (F i j) (csum (F i' j') (some k))
  via : ∀ {i j c}, i ≤ n → j ≤ m → F i j = some c → (i = n ∧ j = m ∧ 0 ≤ c) ∨ ∃ x y i' j' k c', Edge w eo ee i j i' j' x y k ∧ i' ≤ n ∧ j' ≤ m ∧ F i' j' = some c' ∧ c' + k ≤ c
/-- the steps tell how the least costs come about -/
structure Tight (w : α → α → Co) (eo ee : Nat → List (α × Nat)) (n m : Nat) (F : Nat → Nat → Co) (g : Nat → Nat → Option (α × α × Nat × Nat)) : Prop where
  st : F n m = some 0
  en : g n m = none
  no : ∀ {i j}, F i j = none → g i j = none
  via : ∀ {i j c}, i ≤ n → j ≤ m → F i j = some c → (i = n ∧ j = m) ∨ ∃ x y i' j' k c', g i j = some (x, y, i', j') ∧ Edge w eo ee i j i' j' x y k ∧ i' ≤ n ∧ j' ≤ m ∧ F i' j' = some c' ∧ c = c' + k
theorem best_of {S : St α} (I : Inv w eo ee n m W S) (hq : S.q = []) : Best w eo ee n m S.f := by
  refine ⟨I.st, fun {i j i' j' x y k} h1 h2 ed => ?_, fun {i j c} h1 h2 e => ?_⟩
  · cases e : S.f i' j' with
    | none => exact fun u h => nomatch h
    | some c' =>
      rcases I.rel e with h | h
      · rw [hq] at h
        exact nomatch h
      · exact h i j x y k ed
  · rcases I.via e with h | ⟨x, y, i', j', k, c', a1, a2, a3, a4, a5, a6⟩
    · exact .inl ⟨h.1, h.2, (I.ran e).2.2.1⟩
    · exact .inr ⟨x, y, i', j', k, c', a4, a2, a3, a5, a6⟩
theorem tight_of {S : St α} (I : Inv w eo ee n m W S) (hq : S.q = []) : Tight w eo ee n m S.f S.g := by
  refine ⟨I.st, I.en, I.no, fun {i j c} h1 h2 e => ?_⟩
  rcases I.via e with h | ⟨x, y, i', j', k, c', a1, a2, a3, a4, a5, a6⟩
  · exact .inl h
  · refine .inr ⟨x, y, i', j', k, c', a1, a4, a2, a3, a5, ?_⟩
    have := (best_of I hq).le a2 a3 a4
    rw [a5, e] at this
    have := Le.some this
    omega
theorem best_le (hy : Hyp w eo ee n m W) {F D : Nat → Nat → Co} (bF : Best w eo ee n m F) (bD : Best w eo ee n m D) : ∀ (r i j : Nat), i ≤ n → j ≤ m → (n - i) + (m - j) = r → Le (F i j) (D i j) := by
  intro r
  induction r using Nat.strongRecOn with
  | _ r ih =>
    intro i j h1 h2 hr c e
    rcases bD.via h1 h2 e with ⟨rfl, rfl, h⟩ | ⟨x, y, i', j', k, c', a1, a2, a3, a4, a5⟩
    · exact ⟨0, bF.st, h⟩
    · obtain ⟨d1, d2, d3⟩ := hy.dec a1 a2 a3
      obtain ⟨v, e1, l1⟩ := ih _ (by omega) i' j' a2 a3 rfl c' a4
      have := bF.le a2 a3 a1
      rw [e1] at this
      obtain ⟨u, e2, l2⟩ := this _ rfl
      exact ⟨u, e2, by omega⟩
theorem le_anti {a b : Co} (h : Le a b) (k : Le b a) : a = b := by
  cases a with
  | none =>
    cases b with
    | none => rfl
    | some v =>
      obtain ⟨u, e, _⟩ := h v rfl
      exact nomatch e
  | some u =>
    obtain ⟨v, rfl, l1⟩ := k u rfl
    have := Le.some h
    have : u = v := by omega
    rw [this]
theorem best_eq (hy : Hyp w eo ee n m W) {F D : Nat → Nat → Co} (bF : Best w eo ee n m F) (bD : Best w eo ee n m D) {i j : Nat} (hi : i ≤ n) (hj : j ≤ m) : F i j = D i j :=
  le_anti (best_le hy bF bD _ i j hi hj rfl) (best_le hy bD bF _ i j hi hj rfl)
/-- the script along the steps -/
def walk (g : Nat → Nat → Option (α × α × Nat × Nat)) : Nat → Nat → Nat → List (α × α)
  | 0, _, _ => []
  | r + 1, i, j => match g i j with
    | some (x, y, i', j') => (x, y) :: walk g r i' j'
    | none => []
def totW (w : α → α → Co) : List (α × α) → Co
  | [] => some 0
  | q :: l => csum (w q.1 q.2) (totW w l)
/-- the entries of a text's table: what leads to a place -/
def ent (z : α) (s : List α) (k : Nat) : List (α × Nat) := (z, k) :: match k with
  | 0 => []
  | k + 1 => match s[k]? with
    | some c => [(c, k)]
    | none => []
theorem ent_mem {z : α} {s : List α} {x : α} {i i' : Nat} (h : (x, i) ∈ ent z s i') : (x = z ∧ i = i') ∨ (i' = i + 1 ∧ s[i]? = some x) := by
  unfold ent at h
  rcases List.mem_cons.mp h with h | h
  · cases h
    exact .inl ⟨rfl, rfl⟩
  · cases i' with
    | zero => exact nomatch h
    | succ k =>
      have h : (x, i) ∈ (match s[k]? with
        | some c => [(c, k)]
        | none => []) := h
      cases e : s[k]? with
      | none => rw [e] at h; exact nomatch h
      | some c =>
        rw [e] at h
        cases List.mem_singleton.mp h
        exact .inr ⟨rfl, e⟩
theorem mem_ent_self {z : α} {s : List α} {i : Nat} : (z, i) ∈ ent z s i := List.mem_cons_self
theorem mem_ent {z : α} {s : List α} {i : Nat} {c : α} (h : s[i]? = some c) : (c, i) ∈ ent z s (i + 1) := by
  unfold ent
  refine List.mem_cons_of_mem _ ?_
  show (c, i) ∈ (match s[i]? with
        | some c => [(c, i)]
        | none => [])
  rw [h]
  exact List.mem_cons_self
theorem hyp_ent {z : α} {s t : List α} (hz : w z z = none) (pos : ∀ {x y k}, w x y = some k → 0 ≤ k ∧ k ≤ W) : Hyp w (ent z s) (ent z t) s.length t.length W where
  pos := pos
  dec := fun {i j i' j' x y k} ed h1 h2 => by
    obtain ⟨e1, e2, e3⟩ := ed
    rcases ent_mem e1 with ⟨rfl, rfl⟩ | ⟨rfl, _⟩
    · rcases ent_mem e2 with ⟨rfl, rfl⟩ | ⟨rfl, _⟩
      · rw [hz] at e3
        exact nomatch e3
      · omega
    · rcases ent_mem e2 with ⟨rfl, rfl⟩ | ⟨rfl, _⟩ <;> omega
variable {z : α} {s t : List α} {F : Nat → Nat → Co} {g : Nat → Nat → Option (α × α × Nat × Nat)} {β : Type}
theorem walk_nil {r : Nat} {i j : Nat} (h : g i j = none) : walk g r i j = [] := by
  cases r with
  | zero => rfl
  | succ r =>
    unfold walk
    rw [h]
theorem walk_all (hy : Hyp w (ent z s) (ent z t) s.length t.length W) (T : Tight w (ent z s) (ent z t) s.length t.length F g) (h : α → List β) (hz : h z = []) : ∀ (r i j : Nat) (c : Int), i ≤ s.length → j ≤ t.length → (s.length - i) + (t.length - j) ≤ r → F i j = some c →
    totW w (walk g r i j) = some c ∧ ((walk g r i j).map fun q => h q.1).flatten = ((s.drop i).map h).flatten ∧ ((walk g r i j).map fun q => h q.2).flatten = ((t.drop j).map h).flatten ∧ (walk g r i j).length ≤ (s.length - i) + (t.length - j) ∧
    ∀ q ∈ walk g r i j, (q.1 = z ∨ q.1 ∈ s) ∧ (q.2 = z ∨ q.2 ∈ t) ∧ ∃ k, w q.1 q.2 = some k
  | r, i, j, c, hi, hj, hr, e => by
    rcases T.via hi hj e with ⟨rfl, rfl⟩ | ⟨x, y, i', j', k, c', a1, a2, a3, a4, a5, rfl⟩
    · rw [walk_nil T.en]
      rw [T.st] at e
      refine ⟨e, ?_, ?_, Nat.zero_le _, fun q h => nomatch h⟩
      · rw [List.drop_length]
        rfl
      · rw [List.drop_length]
        rfl
    · obtain ⟨d1, d2, d3⟩ := hy.dec a2 a3 a4
      cases r with
      | zero => omega
      | succ r =>
        obtain ⟨b1, b2, b3, b4, b5⟩ := walk_all hy T h hz r i' j' c' a3 a4 (by omega) a5
        have ew : walk g (r + 1) i j = (x, y) :: walk g r i' j' := by
          show (match g i j with
            | some (x, y, i', j') => (x, y) :: walk g r i' j'
            | none => []) = _
          rw [a1]
        rw [ew]
        obtain ⟨e1, e2, e3⟩ := a2
        have cut : ∀ {s : List α} {x : α} {i i' : Nat}, (x, i) ∈ ent z s i' → h x ++ ((s.drop i').map h).flatten = ((s.drop i).map h).flatten := fun {s x i i'} hm => by
          rcases ent_mem hm with ⟨rfl, rfl⟩ | ⟨rfl, hs⟩
          · rw [hz]
            rfl
          · obtain ⟨hl, rfl⟩ := List.getElem?_eq_some_iff.mp hs
            rw [List.drop_eq_getElem_cons hl]
            rfl
        refine ⟨?_, ?_, ?_, ?_, ?_⟩
        · show csum (w x y) _ = _
          rw [e3, b1]
          show some (k + c') = _
          rw [Int.add_comm]
        · rw [List.map_cons, List.flatten_cons, b2]
          exact cut e1
        · rw [List.map_cons, List.flatten_cons, b3]
          exact cut e2
        · rw [List.length_cons]
          omega
        · intro q hq
          rcases List.mem_cons.mp hq with rfl | hq
          · refine ⟨?_, ?_, k, e3⟩
            · rcases ent_mem e1 with ⟨h, _⟩ | ⟨_, h⟩
              · exact .inl h
              · exact .inr (List.mem_of_getElem? h)
            · rcases ent_mem e2 with ⟨h, _⟩ | ⟨_, h⟩
              · exact .inl h
              · exact .inr (List.mem_of_getElem? h)
          · exact b5 q hq
/-- the options at a cell of the table of what remains -/
def o1 (a : Co) : List Int := match a with
  | some v => [v]
  | none => []
def pA (s t : List α) (i j : Nat) : List Int := if i = s.length ∧ j = t.length then [0] else []
def pB (w : α → α → Co) (s t : List α) (D : Nat → Nat → Co) (i j : Nat) : List Int := match s[i]?, t[j]? with
    | some x, some y => o1 (csum (w x y) (D (i + 1) (j + 1)))
    | _, _ => []
def pC (w : α → α → Co) (z : α) (s : List α) (D : Nat → Nat → Co) (i j : Nat) : List Int := match s[i]? with
    | some x => o1 (csum (w x z) (D (i + 1) j))
    | none => []
def pE (w : α → α → Co) (z : α) (t : List α) (D : Nat → Nat → Co) (i j : Nat) : List Int := match t[j]? with
    | some y => o1 (csum (w z y) (D i (j + 1)))
    | none => []
def opts (w : α → α → Co) (z : α) (s t : List α) (D : Nat → Nat → Co) (i j : Nat) : List Int := pA s t i j ++ (pB w s t D i j ++ (pC w z s D i j ++ pE w z t D i j))
theorem pB_some {s t : List α} {D : Nat → Nat → Co} {i j : Nat} {x y : α} (h1 : s[i]? = some x) (h2 : t[j]? = some y) : pB w s t D i j = o1 (csum (w x y) (D (i + 1) (j + 1))) := by
  unfold pB
  rw [h1, h2]
theorem pB_none {s t : List α} {D : Nat → Nat → Co} {i j : Nat} (h : s.length ≤ i ∨ t.length ≤ j) : pB w s t D i j = [] := by
  unfold pB
  rcases h with h | h
  · rw [List.getElem?_eq_none h]
  · rw [List.getElem?_eq_none (l := t) h]
    cases s[i]? <;> rfl
theorem pC_some {z : α} {s : List α} {D : Nat → Nat → Co} {i j : Nat} {x : α} (h1 : s[i]? = some x) : pC w z s D i j = o1 (csum (w x z) (D (i + 1) j)) := by
  unfold pC
  rw [h1]
theorem pC_none {z : α} {s : List α} {D : Nat → Nat → Co} {i j : Nat} (h1 : s.length ≤ i) : pC w z s D i j = [] := by
  unfold pC
  rw [List.getElem?_eq_none h1]
theorem pE_some {z : α} {t : List α} {D : Nat → Nat → Co} {i j : Nat} {y : α} (h1 : t[j]? = some y) : pE w z t D i j = o1 (csum (w z y) (D i (j + 1))) := by
  unfold pE
  rw [h1]
theorem pE_none {z : α} {t : List α} {D : Nat → Nat → Co} {i j : Nat} (h1 : t.length ≤ j) : pE w z t D i j = [] := by
  unfold pE
  rw [List.getElem?_eq_none h1]
theorem o1_len (a : Co) : (o1 a).length ≤ 1 := by
  cases a
  · exact Nat.zero_le _
  · exact Nat.le_refl _
theorem opts_up {z : α} {s t : List α} {D : Nat → Nat → Co} {i j x y : Nat} {v : Co} (h : x < i ∨ (i = x ∧ y ≤ j)) : opts w z s t (up2 D x y v) i j = opts w z s t D i j := by
  unfold opts pB pC pE
  rw [up2_ne (show ¬ (i + 1 = x ∧ j + 1 = y) by omega), up2_ne (show ¬ (i + 1 = x ∧ j = y) by omega), up2_ne (show ¬ (i = x ∧ j + 1 = y) by omega)]
theorem loc_up {z : α} {s t : List α} {D : Nat → Nat → Co} {i j x y : Nat} {v : Co} (h : x < i ∨ (i = x ∧ y < j)) (l : (∀ v ∈ opts w z s t D i j, Le (D i j) (some v)) ∧ (∀ v, D i j = some v → v ∈ opts w z s t D i j)) :
    (∀ u ∈ opts w z s t (up2 D x y v) i j, Le (up2 D x y v i j) (some u)) ∧ (∀ u, up2 D x y v i j = some u → u ∈ opts w z s t (up2 D x y v) i j) := by
  rw [opts_up (by omega), up2_ne (show ¬ (i = x ∧ j = y) by omega)]
  exact l
def Loc (w : α → α → Co) (z : α) (s t : List α) (D : Nat → Nat → Co) (i j : Nat) : Prop :=
  (∀ v ∈ opts w z s t D i j, Le (D i j) (some v)) ∧ (∀ v, D i j = some v → v ∈ opts w z s t D i j)
theorem o1_mem {a : Co} {v : Int} : v ∈ o1 a ↔ a = some v := by
  cases a with
  | none => exact ⟨fun h => (nomatch h), fun h => (nomatch h)⟩
  | some u =>
    constructor
    · intro h
      rw [List.mem_singleton.mp h]
    · intro h
      cases h
      exact List.mem_cons_self
theorem best_loc (hz : w z z = none) {D : Nat → Nat → Co} (hL : ∀ i j, i ≤ s.length → j ≤ t.length → Loc w z s t D i j) (pos : ∀ {x y k}, w x y = some k → 0 ≤ k ∧ k ≤ W) : Best w (ent z s) (ent z t) s.length t.length D := by
  have sn : s[s.length]? = none := List.getElem?_eq_none (Nat.le_refl _)
  have tn : t[t.length]? = none := List.getElem?_eq_none (Nat.le_refl _)
  refine ⟨?_, fun {i j i' j' x y k} h1 h2 ed => ?_, fun {i j c} h1 h2 e => ?_⟩
  · obtain ⟨l1, l2⟩ := hL s.length t.length (Nat.le_refl _) (Nat.le_refl _)
    have eo : opts w z s t D s.length t.length = [0] := by
      unfold opts pA pB pC pE
      rw [if_pos ⟨rfl, rfl⟩, sn, tn]
      rfl
    rw [eo] at l1 l2
    obtain ⟨v, e, _⟩ := l1 0 List.mem_cons_self 0 rfl
    have := l2 v e
    rw [List.mem_singleton.mp this] at e
    exact e
  · obtain ⟨e1, e2, e3⟩ := ed
    intro v hv
    obtain ⟨u, k', e4, e5, rfl⟩ := csum_some hv
    cases e5
    rcases ent_mem e1 with ⟨rfl, rfl⟩ | ⟨rfl, q1⟩
    · rcases ent_mem e2 with ⟨rfl, rfl⟩ | ⟨rfl, q2⟩
      · rw [hz] at e3
        exact nomatch e3
      · obtain ⟨l1, l2⟩ := hL i j h1 (by omega)
        refine l1 _ ?_ _ rfl
        unfold opts pB pC pE
        refine List.mem_append_right _ (List.mem_append_right _ (List.mem_append_right _ ?_))
        rw [q2]
        refine o1_mem.mpr ?_
        rw [e3, e4, Int.add_comm]
        rfl
    · rcases ent_mem e2 with ⟨rfl, rfl⟩ | ⟨rfl, q2⟩
      · obtain ⟨l1, l2⟩ := hL i j (by omega) h2
        refine l1 _ ?_ _ rfl
        unfold opts pB pC pE
        refine List.mem_append_right _ (List.mem_append_right _ (List.mem_append_left _ ?_))
        rw [q1]
        refine o1_mem.mpr ?_
        rw [e3, e4, Int.add_comm]
        rfl
      · obtain ⟨l1, l2⟩ := hL i j (by omega) (by omega)
        refine l1 _ ?_ _ rfl
        unfold opts pB pC pE
        refine List.mem_append_right _ (List.mem_append_left _ ?_)
        rw [q1, q2]
        refine o1_mem.mpr ?_
        rw [e3, e4, Int.add_comm]
        rfl
  · obtain ⟨l1, l2⟩ := hL i j h1 h2
    have hm := l2 c e
    unfold opts pA pB pC pE at hm
    rcases List.mem_append.mp hm with hm | hm
    · by_cases zz : i = s.length ∧ j = t.length
      · rw [if_pos zz] at hm
        exact .inl ⟨zz.1, zz.2, by rw [List.mem_singleton.mp hm]; exact Int.le_refl _⟩
      · rw [if_neg zz] at hm
        exact nomatch hm
    have ran : ∀ {s : List α} {i : Nat} {x : α}, s[i]? = some x → i + 1 ≤ s.length := fun h => (List.getElem?_eq_some_iff.mp h).1
    rcases List.mem_append.mp hm with hm | hm
    · cases q1 : s[i]? with
      | none => rw [q1] at hm; exact nomatch hm
      | some x =>
        cases q2 : t[j]? with
        | none => rw [q1, q2] at hm; exact nomatch hm
        | some y =>
          rw [q1, q2] at hm
          obtain ⟨k, c', e1, e2, rfl⟩ := csum_some (o1_mem.mp hm)
          exact .inr ⟨x, y, i + 1, j + 1, k, c', ⟨mem_ent q1, mem_ent q2, e1⟩, ran q1, ran q2, e2, by omega⟩
    · rcases List.mem_append.mp hm with hm | hm
      · cases q1 : s[i]? with
        | none => rw [q1] at hm; exact nomatch hm
        | some x =>
          rw [q1] at hm
          obtain ⟨k, c', e1, e2, rfl⟩ := csum_some (o1_mem.mp hm)
          exact .inr ⟨x, z, i + 1, j, k, c', ⟨mem_ent q1, mem_ent_self, e1⟩, ran q1, h2, e2, by omega⟩
      · cases q2 : t[j]? with
        | none => rw [q2] at hm; exact nomatch hm
        | some y =>
          rw [q2] at hm
          obtain ⟨k, c', e1, e2, rfl⟩ := csum_some (o1_mem.mp hm)
          exact .inr ⟨z, y, i, j + 1, k, c', ⟨mem_ent_self, mem_ent q2, e1⟩, h1, ran q2, e2, by omega⟩
end
end Dk

namespace KC
open PySem L2 Gd Fw KM
/-- the letters of a text, as texts -/
abbrev ltr (t : Str) : List Str := t.cps.toList.map fun c => (⟨#[c]⟩ : Str)
/-- the row of a place in a text's table -/
def rowD (s : List Str) (k : Nat) : List (Key × V) := match s[k]? with
  | some x => [(.inr x, .int ((k : Nat) + 1 : Int))]
  | none => []
def RowsAt (H : Hp) (rs : List Addr) (s : List Str) : Prop := rs.length = s.length + 1 ∧ ∀ k a, rs[k]? = some a → H a = some (.dK (rowD s k))
def TabAt (H : Hp) (v : V) (s : List Str) : Prop := ∃ p R Z rs, v = .ref p ∧ H p = some (.tup [.ref R, .ref Z]) ∧ H Z = some (.lst [.int (s.length : Nat)]) ∧ H R = some (.lst (rs.map V.ref)) ∧ RowsAt H rs s
theorem TabAt.same {H H' : Hp} {v : V} {s : List Str} (h : TabAt H v s) (e : Same H H') : TabAt H' v s := by
  obtain ⟨p, R, Z, rs, rfl, h1, h2, h3, h4, h5⟩ := h
  exact ⟨p, R, Z, rs, rfl, e _ _ h1, e _ _ h2, e _ _ h3, h4, fun k a z => e _ _ (h5 k a z)⟩
def spTT : Sp := fun vs H Q _ => ∃ t : Str, vs = [.str t] ∧ t.length ≤ 10000 ∧ ∀ v H', Same H H' → TabAt H' v (ltr t) → Q v H'
theorem walk_enumS {x : Str} : Walk (Zn.Itet x) x.cps.size (fun _ => True) (YPair (fun i => some (.int (i : Nat))) (fun i => x.cps[i]?.map fun c => .str ⟨#[c]⟩)) := by
  refine ⟨fun _ _ hi _ => hi, fun _ _ => rfl, fun i H v H' _ _ y => ?_⟩
  obtain ⟨T, c, h1, h2, h3, h4⟩ := y
  exact ⟨T, _, _, h1, h2, h3, rfl, by show Option.map _ _ = _; rw [h4]; rfl⟩
section
variable {P : Program} {w : World} {K : PySem.W.Frag} {mg : Str → Option Value} {base : Heap}
abbrev stext_table : Stmt := top 36
theorem sctext_table : FnScope ["text", "place", "letter"] ["text"] (defScope stext_table) := ⟨rfl, rfl, rfl, by decide +kernel, rfl, by decide +kernel, by decide +kernel⟩
theorem ok_ttab {f : Addr} {fd : FuncData} (F : Fun K "text_table" "text_table" stext_table f fd) (T : Txt mg base) : FnG P w K mg base CX0 1 f fd ["text"] spTT := by
  refine okG F sctext_table (fun vs H Q E h => ?_) (fun cdv A outer s H vs Q E hc hr h => ?_)
  · obtain ⟨t, rfl, _⟩ := h
    rfl
  obtain ⟨t, rfl, tl, q⟩ := h
  refine ⟨_, (pss_one (ps_ret (pe_tup (pa_cons (pe_op op_cat (pe_lc (own := [("place", 1), ("letter", 2)]) (g := _) rfl sctext_table.nd (Zn.pi_enumS (by rfl) T.z_enumerate (pa_cons (pv 0) pa_nil)) (blkOk_by (N := ["text", "place", "letter"]) (sc := defScope stext_table) (by decide +kernel)) (fun _ _ _ _ _ => (pg_tupK (K := K) (n := 2) rfl rfl (pgs_cons (pg_name (i := 1) sctext_table.nd rfl (Or.inl rfl)) (pgs_cons (pg_name (i := 2) sctext_table.nd rfl (Or.inl rfl)) pgs_nil)))) (fun _ _ _ _ _ => pts_nil) (fun _ _ _ _ _ => (pe_disp (pps_cons (pv 2) (pe_op op_add (pv 1) pe_int) pps_nil) (by rfl) (by rfl) (fun z => by cases z) (by decide)))) (pe_lst (pa_cons pe_dnewK pa_nil))) (pa_cons (pe_lst (pa_cons (pe_callB call_len_str (by rfl) T.z_len (by decide +kernel) (pa_cons (pv 0) pa_nil)) pa_nil)) pa_nil))))), ?_⟩
  have sz := sizeLine_eq
  have cl : (ltr t).length = t.length := by
    rw [List.length_map, len_list]
  refine ⟨_, rfl, t, rfl, fun D hD => ?_⟩
  refine walk_W walk_enumS (fun i H' => Same H H' ∧ ∃ rs : List Addr, H' D = some (.lst (rs.map V.ref)) ∧ rs.length = i ∧ ∀ k a, rs[k]? = some a → H' a = some (.dK (rowD (ltr t) k))) ⟨same_new hD, [], upd_same, rfl, fun k a h => nomatch h⟩ (fun _ _ _ _ => trivial) ?_ ?_
  · rintro i v H1 _ lt ⟨s1, rs, q1, q2, q3⟩ ⟨p, x, y, rfl, hp, rfl, ex, ey⟩
    cases ex
    have ey : (t.cps[i]?.map fun c => V.str ⟨#[c]⟩) = some y := ey
    obtain ⟨c, hcx, rfl⟩ : ∃ c, t.cps[i]? = some c ∧ y = .str ⟨#[c]⟩ := by
      cases e : t.cps[i]? with
      | none => rw [e] at ey; exact nomatch ey
      | some c => rw [e] at ey; exact ⟨c, rfl, (Option.some.inj ey).symm⟩
    have nD : ∀ {b : Addr}, H1 b = none → b ≠ D := fun h z => by rw [z, q1] at h; exact nomatch h
    have sp := same_new (o := .tup [V.int (i : Nat), V.str ⟨#[c]⟩]) hp
    refine ⟨p, _, rfl, SqT.of upd_same, rfl, _, _, rfl, _, _, rfl, rfl, rfl, yes_go fun r hr' => ?_⟩
    refine ⟨_, rfl, _, rfl, _, _, rfl, rfl, upd_same, [(.inr ⟨#[c]⟩, .int ((i : Nat) + 1 : Int))], rfl, (by show 1 ≤ 15; decide), ?_⟩
    have nr : H1 r = none := same_free sp hr'
    have sr := same_new (o := .dK []) hr'
    have keep : ∀ b o, H1 b = some o → b ≠ D → (upd (upd (upd (upd H1 p (.tup [V.int (i : Nat), V.str ⟨#[c]⟩])) r (.dK [])) r (.dK (mergeK [] [(.inr ⟨#[c]⟩, .int ((i : Nat) + 1 : Int))]))) D (.lst (rs.map V.ref ++ [.ref r]))) b = some o := fun b o hb ne => by
      rw [upd_ne ne, upd_ne (fun z => by rw [z, nr] at hb; exact nomatch hb)]
      exact sr _ _ (sp _ _ hb)
    refine ⟨rs.map V.ref, ?_, by rw [List.length_map, q2, sz]; have : t.cps.size = t.length := rfl; omega, ?_⟩
    · rw [upd_ne (nD nr).symm]
      exact sr _ _ (sp _ _ q1)
    · refine ⟨fun b o hb => keep b o (s1 _ _ hb) (ne_of_none hb hD), rs ++ [r], ?_, by rw [List.length_append, q2]; rfl, fun k a hk => ?_⟩
      · rw [upd_same, List.map_append]
        rfl
      · rw [List.getElem?_append] at hk
        by_cases z : k < rs.length
        · rw [if_pos z] at hk
          have := q3 k a hk
          exact keep _ _ this (ne_of this q1 (fun z => nomatch z))
        · rw [if_neg z] at hk
          have e : k = i := by
            have := (List.getElem?_eq_some_iff.mp hk).1
            rw [List.length_singleton] at this
            omega
          subst e
          rw [show k - rs.length = 0 by omega] at hk
          cases hk
          rw [upd_ne (nD nr), upd_same]
          have el : (ltr t)[k]? = some (⟨#[c]⟩ : Str) := by
            rw [List.getElem?_map, Array.getElem?_toList, hcx]
            rfl
          unfold rowD
          rw [el]
          rfl
  · rintro H1 ⟨s1, rs, q1, q2, q3⟩
    have cz : t.cps.size = t.length := rfl
    rw [cz] at q2
    intro d hd
    refine ⟨by show 1 ≤ sizeLine; decide, fun l hl => ?_⟩
    have sa := same_new (o := .dK []) hd
    have sb := same_new (o := .lst [V.ref d]) hl
    refine ⟨D, l, _, _, rfl, rfl, sb _ _ (sa _ _ q1), upd_same, by rw [List.length_map, q2, sz, List.length_singleton]; omega, fun R hR => ?_⟩
    have sc := same_new (o := .lst (rs.map V.ref ++ [V.ref d])) hR
    refine ⟨_, rfl, t, rfl, by omega, by show 1 ≤ sizeLine; decide, fun Z hZ => ?_⟩
    have sd := same_new (o := .lst [V.int (t.length : Nat)]) hZ
    refine ⟨by show 2 ≤ sizeLine; decide, fun p hp => ?_⟩
    have se := same_new (o := .tup [V.ref R, V.ref Z]) hp
    have S := sa.trans (sb.trans (sc.trans (sd.trans se)))
    refine q _ _ (s1.trans S) ⟨p, R, Z, rs ++ [d], rfl, upd_same, ?_, ?_, ?_, fun k a hk => ?_⟩
    · rw [cl]
      exact se _ _ upd_same
    · rw [List.map_append]
      exact se _ _ (sd _ _ upd_same)
    · rw [List.length_append, q2, cl]
      rfl
    · rw [List.getElem?_append] at hk
      by_cases z : k < rs.length
      · rw [if_pos z] at hk
        exact S _ _ (q3 k a hk)
      · rw [if_neg z] at hk
        have e : k = t.length := by
          have := (List.getElem?_eq_some_iff.mp hk).1
          rw [List.length_singleton] at this
          omega
        subst e
        rw [show t.length - rs.length = 0 by omega] at hk
        cases hk
        have el : (ltr t)[t.length]? = none := List.getElem?_eq_none (by omega)
        unfold rowD
        rw [el]
        exact se _ _ (sd _ _ (sc _ _ (sb _ _ upd_same)))
end
end KC

namespace KC
open PySem L2 Gd Fw KM
/-- entries: tuples of a text and a place -/
inductive EvAt (H : Hp) : List V → List (Str × Nat) → Prop
  | nil : EvAt H [] []
  | cons {a : Addr} {x : Str} {i : Nat} {vs : List V} {l : List (Str × Nat)} : H a = some (.tup [.str x, .int (i : Nat)]) → EvAt H vs l → EvAt H (.ref a :: vs) ((x, i) :: l)
section
variable {H H' : Hp} {vs us : List V} {l r : List (Str × Nat)}
theorem EvAt.mono (e : ∀ b xs, H b = some (.tup xs) → H' b = some (.tup xs)) (h : EvAt H vs l) : EvAt H' vs l := by
  induction h with
  | nil => exact .nil
  | cons h _ ih => exact .cons (e _ _ h) ih
theorem EvAt.same (e : Same H H') (h : EvAt H vs l) : EvAt H' vs l := h.mono fun b xs z => e b _ z
theorem EvAt.upd {d : Addr} {o u : HO} (hd : H d = some o) (ne : ∀ xs, o ≠ .tup xs) (h : EvAt H vs l) : EvAt (upd H d u) vs l := h.mono fun b xs z => by
  rw [upd_ne (fun e => by rw [e, hd] at z; exact ne xs (Option.some.inj z))]
  exact z
theorem EvAt.app (h : EvAt H vs l) (k : EvAt H us r) : EvAt H (vs ++ us) (l ++ r) := by
  induction h with
  | nil => exact k
  | cons h _ ih => exact .cons h ih
theorem EvAt.len (h : EvAt H vs l) : vs.length = l.length := by
  induction h with
  | nil => rfl
  | cons _ _ ih => rw [List.length_cons, List.length_cons, ih]
theorem EvAt.at (h : EvAt H vs l) : ∀ {i : Nat} {v : V}, vs[i]? = some v → ∃ a x k, v = .ref a ∧ H a = some (.tup [.str x, .int (k : Nat)]) ∧ l[i]? = some (x, k) := by
  induction h with
  | nil => exact fun e => nomatch e
  | cons h _ ih =>
    intro i v e
    cases i with
    | zero => exact ⟨_, _, _, (Option.some.inj e).symm, h, rfl⟩
    | succ i => exact ih e
end
abbrev eps : Str := Str.ofString ""
/-- the lists of entries, one a place -/
structure EsAt (G H : Hp) (es : List Addr) (D : Addr) (ls : Nat → List (Str × Nat)) : Prop where
  hD : H D = some (.lst (es.map V.ref))
  nd : es.Nodup
  nD : D ∉ es
  fr : ∀ a ∈ es, G a = none
  at_ : ∀ k a, es[k]? = some a → ∃ vs, H a = some (.lst vs) ∧ EvAt H vs (ls k)
theorem EsAt.go {G H H' : Hp} {es : List Addr} {D : Addr} {ls : Nat → List (Str × Nat)} (h : EsAt G H es D ls) (e1 : ∀ b xs, H b = some (.lst xs) → H' b = some (.lst xs)) (e2 : ∀ b xs, H b = some (.tup xs) → H' b = some (.tup xs)) : EsAt G H' es D ls :=
  ⟨e1 _ _ h.hD, h.nd, h.nD, h.fr, fun k a hk => let ⟨vs, q1, q2⟩ := h.at_ k a hk; ⟨vs, e1 _ _ q1, q2.mono e2⟩⟩
theorem EsAt.same {G H H' : Hp} {es : List Addr} {D : Addr} {ls : Nat → List (Str × Nat)} (h : EsAt G H es D ls) (e : Same H H') : EsAt G H' es D ls := h.go (fun b _ z => e b _ z) (fun b _ z => e b _ z)
theorem EsAt.upd {G H : Hp} {es : List Addr} {D d : Addr} {ls : Nat → List (Str × Nat)} {o u : HO} (h : EsAt G H es D ls) (hd : H d = some o) (n1 : ∀ xs, o ≠ .lst xs) (n2 : ∀ xs, o ≠ .tup xs) : EsAt G (upd H d u) es D ls :=
  h.go (fun b xs z => by rw [upd_ne (fun e => by rw [e, hd] at z; exact n1 xs (Option.some.inj z))]; exact z) (fun b xs z => by rw [upd_ne (fun e => by rw [e, hd] at z; exact n2 xs (Option.some.inj z))]; exact z)
theorem EsAt.put {G H : Hp} {es : List Addr} {D a p : Addr} {ls ls' : Nat → List (Str × Nat)} {n i : Nat} {x : Str} {vs : List V} (h : EsAt G H es D ls) (ha : es[n]? = some a) (hv : H a = some (.lst vs)) (hp : H p = some (.tup [.str x, .int (i : Nat)]))
    (e1 : ls' n = ls n ++ [(x, i)]) (e2 : ∀ k, k ≠ n → ls' k = ls k) : EsAt G (L2.upd H a (.lst (vs ++ [.ref p]))) es D ls' := by
  have mt : ∀ b xs, H b = some (.tup xs) → (L2.upd H a (.lst (vs ++ [.ref p]))) b = some (.tup xs) := fun b xs z => by
    rw [upd_ne (fun e => by rw [e, hv] at z; exact nomatch z)]
    exact z
  have ma := List.mem_of_getElem? ha
  refine ⟨by rw [upd_ne (fun z => h.nD (by rw [z]; exact ma))]; exact h.hD, h.nd, h.nD, h.fr, fun k b hk => ?_⟩
  by_cases z : k = n
  · subst z
    rw [ha] at hk
    cases hk
    obtain ⟨us, q1, q2⟩ := h.at_ k a ha
    rw [hv] at q1
    cases q1
    rw [e1]
    exact ⟨_, upd_same, (q2.mono mt).app (.cons (mt _ _ hp) .nil)⟩
  · obtain ⟨us, q1, q2⟩ := h.at_ k b hk
    have nb : b ≠ a := fun e => by
      subst e
      have g1 := List.getElem?_eq_some_iff.mp hk
      have g2 := List.getElem?_eq_some_iff.mp ha
      exact z ((List.getElem_inj h.nd).mp (g1.2.trans g2.2.symm))
    rw [e2 k z]
    exact ⟨us, by rw [upd_ne nb]; exact q1, q2.mono mt⟩
def EntAt (H : Hp) (D : Addr) (s : List Str) : Prop := ∃ es : List Addr, H D = some (.lst (es.map V.ref)) ∧ es.length = s.length + 1 ∧ ∀ k a, es[k]? = some a → ∃ vs, H a = some (.lst vs) ∧ EvAt H vs (Dk.ent eps s k)
theorem EntAt.same {H H' : Hp} {D : Addr} {s : List Str} (e : Same H H') : EntAt H D s → EntAt H' D s := by
  rintro ⟨es, h1, h2, h3⟩
  exact ⟨es, e _ _ h1, h2, fun k a z => let ⟨vs, q1, q2⟩ := h3 k a z; ⟨vs, e _ _ q1, q2.same e⟩⟩
/-- entries once the rows below i are done -/
def entU (s : List Str) (i k : Nat) : List (Str × Nat) := if k ≤ i then Dk.ent eps s k else [(eps, k)]
theorem entU_0 {s : List Str} {k : Nat} : entU s 0 k = [(eps, k)] := by
  unfold entU
  by_cases h : k ≤ 0
  · rw [if_pos h]
    obtain rfl : k = 0 := by omega
    rfl
  · rw [if_neg h]
theorem entU_ne {s : List Str} {i k : Nat} (h : k ≠ i + 1) : entU s (i + 1) k = entU s i k := by
  unfold entU
  by_cases z : k ≤ i
  · rw [if_pos z, if_pos (by omega)]
  · rw [if_neg z, if_neg (by omega)]
theorem entU_app {s : List Str} {i : Nat} {x : Str} (h : s[i]? = some x) : entU s (i + 1) (i + 1) = entU s i (i + 1) ++ [(x, i)] := by
  unfold entU
  rw [if_pos (Nat.le_refl _), if_neg (by omega)]
  simp [Dk.ent, h]
def spEnt : Sp := fun vs H Q _ => ∃ (R : Addr) (rs : List Addr) (s : List Str), vs = [.ref R] ∧ H R = some (.lst (rs.map V.ref)) ∧ RowsAt H rs s ∧ s.length ≤ 10000 ∧ ∀ e H', Same H H' → H e = none → EntAt H' e s → Q (.ref e) H'
section
variable {P : Program} {w : World} {K : PySem.W.Frag} {mg : Str → Option Value} {base : Heap}
abbrev sentries_of : Stmt := top 40
theorem scentries_of : FnScope ["rows", "state", "entries", "row", "letter"] ["rows"] (defScope sentries_of) := ⟨rfl, rfl, rfl, by decide +kernel, rfl, by decide +kernel, by decide +kernel⟩
theorem ok_ent {f : Addr} {fd : FuncData} (F : Fun K "entries_of" "entries_of" sentries_of f fd) (T : Txt mg base) : FnG P w K mg base CX0 1 f fd ["rows"] spEnt := by
  refine okG F scentries_of (fun vs H Q E h => ?_) (fun cdv A outer s0 H vs Q E hc hr h => ?_)
  · obtain ⟨R, rs, s, rfl, _⟩ := h
    rfl
  obtain ⟨R, rs, s, rfl, hR, ⟨rl, ra⟩, sl, q⟩ := h
  refine ⟨_, (pss_cons (ps_setLc (i := 2) (own := [("state", 1)]) (g := gName 1) rfl scentries_of.nd rfl rfl (sw_true rfl rfl rfl (by decide +kernel)) (pi_range1 rfl T.z_range (pa_cons (pe_callB call_len_seq (by rfl) T.z_len (by decide +kernel) (pa_cons (pv 0) pa_nil)) pa_nil)) (blkOk_by (N := ["rows", "state", "entries", "row", "letter"]) (sc := defScope sentries_of) (by decide +kernel)) (fun _ _ _ _ _ => pg_name (i := 1) scentries_of.nd rfl (Or.inl rfl)) (fun _ _ _ _ _ => pts_nil) (fun _ _ _ _ _ => (pe_lst (pa_cons (pe_tup (pa_cons pe_str (pa_cons (pv 1) pa_nil))) pa_nil))))
 (pss_cons (ps_for (passes_of rfl) rfl (pi_enum (by rfl) T.z_enumerate (pa_cons (pv 0) pa_nil)) (pg_tup (by rfl) (pgs_cons (pg_name (i := 1) scentries_of.nd rfl (Or.inl rfl)) (pgs_cons (pg_name (i := 3) scentries_of.nd rfl (Or.inl rfl)) pgs_nil)))
  (pss_one (ps_lock (ps_for (passes_of rfl) rfl (pi_keys (pv 3)) (pg_name (i := 4) scentries_of.nd rfl (Or.inl rfl))
  (pss_one (ps_expr (pe_bm PySem.F.plainAttrs_list PySem.F.slot_list_append PySem.F.type_list_append mt_append (pe_ix ix_list (pv 2) (pe_dget (hu_of hr) (pv 3) (pv 4) (fun _ _ => rfl)) (fun _ _ => rfl)) (pa_cons (pe_tup (pa_cons (pv 4) (pa_cons (pv 1) pa_nil))) pa_nil))))))))
 (pss_one (ps_ret (pv 2))))), ?_⟩
  have sz := sizeLine_eq
  have rm : (rs.map V.ref).length = s.length + 1 := by rw [List.length_map, rl]
  refine ⟨_, rfl, R, _, rfl, .inl (SqL.of hR), _, rfl, by omega, by rw [rm]; omega, fun D hD => ?_⟩
  rw [rm]
  have hD0 := hD
  refine walk_W (n := s.length + 1) (L2.walk_range) (fun i H' => Same H H' ∧ ∃ es : List Addr, es.length = i ∧ EsAt H H' es D fun k => [(eps, k)]) ⟨same_new hD, [], rfl, upd_same, List.nodup_nil, fun h => (nomatch h), fun a h => (nomatch h), fun k a h => (nomatch h)⟩ (fun _ _ _ _ => trivial) ?_ ?_
  · rintro i v H1 H1' lt ⟨s1, es, el, ee⟩ ⟨rfl, rfl⟩
    show gName 1 (V.int (0 + (i : Int))) _ _ _
    rw [Int.zero_add]
    refine ⟨rfl, yes_go ?_⟩
    refine ⟨_, rfl, by show 2 ≤ sizeLine; decide, fun p hp => ⟨by show 1 ≤ sizeLine; decide, fun a ha => ?_⟩⟩
    have sp := same_new (o := .tup [V.str (Str.ofString ""), V.int (i : Int)]) hp
    have sa := same_new (o := .lst [V.ref p]) ha
    have na : H1' a = none := same_free sp ha
    have nD : ∀ {b : Addr}, H1' b = none → b ≠ D := fun h z => by rw [z, ee.hD] at h; exact nomatch h
    refine ⟨es.map V.ref, sa _ _ (sp _ _ ee.hD), by rw [List.length_map, el]; omega, ⟨fun b o hb => ?_, es ++ [a], by rw [List.length_append, el]; rfl, ?_, ?_, fun z => ?_, ?_, ?_⟩⟩
    · rw [upd_ne (ne_of_none hb hD)]
      exact sa _ _ (sp _ _ (s1 _ _ hb))
    · rw [upd_same, List.map_append]
      rfl
    · rw [List.nodup_append]
      refine ⟨ee.nd, List.nodup_cons.mpr ⟨List.not_mem_nil, List.nodup_nil⟩, fun b hb c hc z => ?_⟩
      rw [List.mem_singleton.mp hc] at z
      subst z
      obtain ⟨k, hk⟩ := List.mem_iff_getElem?.mp hb
      obtain ⟨vs, h, _⟩ := ee.at_ k b hk
      rw [h] at na
      exact nomatch na
    · rcases List.mem_append.mp z with hb | hb
      · exact ee.nD hb
      · exact nD na (List.mem_singleton.mp hb).symm
    · intro b hb
      rcases List.mem_append.mp hb with hb | hb
      · exact ee.fr b hb
      · rw [List.mem_singleton.mp hb]
        exact same_free s1 na
    · intro k b hk
      rw [List.getElem?_append] at hk
      by_cases z : k < es.length
      · rw [if_pos z] at hk
        obtain ⟨vs, h1, h2⟩ := ee.at_ k b hk
        refine ⟨vs, ?_, EvAt.upd (sa _ _ (sp _ _ ee.hD)) (fun _ z => nomatch z) (h2.same (sp.trans sa))⟩
        have m := List.mem_of_getElem? hk
        rw [upd_ne (fun z => ee.nD (by rw [← z]; exact m))]
        exact sa _ _ (sp _ _ h1)
      · rw [if_neg z] at hk
        have e : k = i := by
          have := (List.getElem?_eq_some_iff.mp hk).1
          rw [List.length_singleton] at this
          omega
        subst e
        rw [show k - es.length = 0 by omega] at hk
        cases hk
        refine ⟨[.ref p], ?_, .cons ?_ .nil⟩
        · rw [upd_ne (nD na), upd_same]
        · rw [upd_ne (nD hp)]
          exact sa _ _ upd_same
  · rintro H1 ⟨s1, es, el, ee⟩
    refine ⟨_, rfl, R, _, rfl, SqL.of (s1 _ _ hR), ?_⟩
    refine L2.for_it walk_enum (fun i σ H' => (∃ o1 o3 o4 : Option V, σ = [some (.ref R), o1, some (.ref D), o3, o4]) ∧ Same H H' ∧ EsAt H H' es D (entU s i)) ⟨⟨_, _, _, rfl⟩, s1, ?_⟩ (fun i σ H' _ pv => SqL.of (pv.2.1 _ _ hR)) ?_ ?_
    · refine ⟨ee.hD, ee.nd, ee.nD, ee.fr, fun k a hk => ?_⟩
      rw [entU_0]
      exact ee.at_ k a hk
    · rintro i v σ H2 _ lt ⟨⟨o1, o3, o4, rfl⟩, s2, e2⟩ ⟨T, x, y, rfl, hT, rfl, ex, ey⟩
      cases ex
      have hi : i < rs.length := by rw [List.length_map] at lt; exact lt
      obtain ⟨d, hd, rfl⟩ : ∃ d, rs[i]? = some d ∧ y = .ref d := by
        have ey : (rs.map V.ref)[i]? = some y := ey
        rw [List.getElem?_map] at ey
        cases e : rs[i]? with
        | none => rw [e] at ey; exact nomatch ey
        | some d => rw [e] at ey; exact ⟨d, rfl, (Option.some.inj ey).symm⟩
      have sT := same_new (o := .tup [V.int (i : Nat), V.ref d]) hT
      have h0 := ra i d hd
      have hd2 := sT _ _ (s2 _ _ h0)
      refine ⟨T, _, rfl, SqT.of upd_same, rfl, _, _, rfl, _, _, rfl, rfl, ?_⟩
      refine ⟨d, .dK (rowD s i), hd2, trivial, fun od => ?_⟩
      refine ⟨_, rfl, d, od, rfl, .inl ⟨rowD s i, upd_same, ?_⟩⟩
      have nDd : D ≠ d := fun z => by rw [← z, hD0] at h0; exact nomatch h0
      refine L2.for_it L2.walk_keys (fun j σ H' => (∃ o4 : Option V, σ = [some (.ref R), some (.int (i : Nat)), some (.ref D), some (.ref d), o4]) ∧ H' d = some (.frz od (.dK (rowD s i))) ∧ (∀ b o, b ≠ d → H b = some o → H' b = some o) ∧ EsAt H H' es D (if j = 0 then entU s i else entU s (i + 1))) ⟨⟨_, rfl⟩, upd_same, fun b o ne hb => ?_, ?_⟩ (fun j σ H' _ pv => pv.2.1) ?_ ?_
      · rw [upd_ne ne]
        exact sT _ _ (s2 _ _ hb)
      · rw [if_pos rfl]
        exact (e2.same sT).upd hd2 (fun _ z => nomatch z) (fun _ z => nomatch z)
      · rintro j v σ H3 _ ltj ⟨⟨o4, rfl⟩, l3, s3, e3⟩ ⟨rfl, k, u, hk, rfl⟩
        rename_i H3
        obtain ⟨x, hx, rfl, rfl, rfl⟩ : ∃ x, s[i]? = some x ∧ k = .inr x ∧ u = .int ((i : Nat) + 1 : Int) ∧ j = 0 := by
          unfold rowD at hk
          cases e : s[i]? with
          | none => rw [e] at hk; exact nomatch hk
          | some x =>
            rw [e] at hk
            have hk : [((.inr x : Key), V.int ((i : Nat) + 1 : Int))][j]? = some (k, u) := hk
            cases j with
            | zero => cases hk; exact ⟨x, rfl, rfl, rfl, rfl⟩
            | succ j => exact nomatch hk
        have hlt : i < s.length := (List.getElem?_eq_some_iff.mp hx).1
        obtain ⟨a, ha⟩ : ∃ a, es[i + 1]? = some a := ⟨es[i + 1]'(by omega), List.getElem?_eq_getElem (by omega)⟩
        rw [if_pos rfl] at e3
        have hv : valV (rowD s i) (.inr x) = some (.int ((i + 1 : Nat) : Int)) := by
          unfold rowD
          rw [hx]
          simp [valV]
        obtain ⟨vs, q1, q2⟩ := e3.at_ (i + 1) a ha
        refine ⟨_, rfl, _, rfl, _, rfl, d, _, rfl, .inl ⟨rowD s i, .inr x, .inr ⟨od, l3⟩, rfl, hv.symm⟩, ?_⟩
        refine ⟨D, _, _, _, rfl, rfl, SqL.of e3.hD, atI_nat (by rw [List.getElem?_map, ha]; rfl), ?_⟩
        have vl : vs.length = 1 := by
          rw [q2.len]
          unfold entU
          rw [if_neg (by omega)]
          rfl
        refine ⟨.inl ⟨rfl, _, SqL.of q1⟩, _, rfl, _, rfl, by show 2 ≤ sizeLine; decide, fun p hp => ?_⟩
        have sp := same_new (o := .tup [V.str x, V.int (i : Nat)]) hp
        have na : ∀ {b : Addr}, H b = none → b ≠ d := fun h z => by rw [z, h0] at h; exact nomatch h
        have da : d ≠ a := fun z => by have := e3.fr a (List.mem_of_getElem? ha); rw [← z, h0] at this; exact nomatch this
        refine ⟨a, vs, _, rfl, rfl, sp _ _ q1, by omega, ⟨_, rfl⟩, ?_, fun b o ne hb => ?_, ?_⟩
        · rw [upd_ne da]
          exact sp _ _ l3
        · rw [upd_ne (ne_of_none hb (e3.fr a (List.mem_of_getElem? ha)))]
          exact sp _ _ (s3 b o ne hb)
        · rw [if_neg (by omega)]
          exact (e3.same sp).put ha (sp _ _ q1) upd_same (entU_app hx) (fun k hk => entU_ne hk)
      · rintro σ H3 ⟨⟨o4, rfl⟩, l3, s3, e3⟩
        refine ⟨l3, ⟨_, _, _, rfl⟩, fun b o hb => ?_, ?_⟩
        · by_cases z : b = d
          · subst z
            rw [upd_same, ← h0]
            exact hb
          · rw [upd_ne z]
            exact s3 b o z hb
        · have e4 := e3.upd (u := .dK (rowD s i)) l3 (fun _ z => nomatch z) (fun _ z => nomatch z)
          cases e : s[i]? with
          | some x =>
            have : (rowD s i).length = 1 := by unfold rowD; rw [e]; rfl
            rw [this, if_neg (by decide)] at e4
            exact e4
          | none =>
            have : (rowD s i).length = 0 := by unfold rowD; rw [e]; rfl
            rw [this, if_pos rfl] at e4
            have hge : s.length ≤ i := List.getElem?_eq_none_iff.mp e
            refine ⟨e4.hD, e4.nd, e4.nD, e4.fr, fun k a hk => ?_⟩
            rw [entU_ne]
            · exact e4.at_ k a hk
            · have := (List.getElem?_eq_some_iff.mp hk).1
              omega
    · rintro σ H2 ⟨⟨o1, o3, o4, rfl⟩, s2, e2⟩
      rw [List.length_map, rl] at e2
      refine ⟨_, rfl, q D _ s2 hD0 ⟨es, e2.hD, el, fun k a hk => ?_⟩⟩
      obtain ⟨vs, h1, h2⟩ := e2.at_ k a hk
      refine ⟨vs, h1, ?_⟩
      unfold entU at h2
      have := (List.getElem?_eq_some_iff.mp hk).1
      rw [if_pos (by omega)] at h2
      exact h2
end
end KC

namespace KC
open PySem L2 Gd Fw KM
/-- what an edit costs, nothing by nothing apart -/
def wgt (cs : List Nat) (p : Fn Str) : Str → Str → Co := fun x y => if x ∈ symL cs ∧ y ∈ symL cs ∧ ¬ (x = eps ∧ y = eps) then spn cs p x y else none
def WAt (H : Hp) (e : Addr) (cs : List Nat) (p : Fn Str) : Prop := ∃ kvs, H e = some (.dT kvs) ∧ ∀ x ∈ symL cs, ∀ y ∈ symL cs, (valV kvs (kk x y)).getD .non = oV (wgt cs p x y)
theorem WAt.same {H H' : Hp} {e : Addr} {cs : List Nat} {p : Fn Str} (s : Same H H') : WAt H e cs p → WAt H' e cs p := fun ⟨kvs, h1, h2⟩ => ⟨kvs, s _ _ h1, h2⟩
def full2 (x y : Str) : Bool := !decide (x = eps) || !decide (y = eps)
def rowP (D : List Str) (x : Str) (j : Nat) : List (Str × Str) := ((D.take j).filter fun y => full2 x y).map fun y => (x, y)
def allP (D : List Str) (i : Nat) : List (Str × Str) := (D.take i).flatMap fun x => rowP D x D.length
theorem rowP_succ {D : List Str} {x y : Str} {j : Nat} (h : D[j]? = some y) : rowP D x (j + 1) = rowP D x j ++ if full2 x y = true then [(x, y)] else [] := by
  unfold rowP
  rw [List.take_add_one, h, List.filter_append, List.map_append]
  by_cases z : full2 x y = true
  · rw [if_pos z]
    simp [z]
  · rw [if_neg z]
    simp [z]
theorem allP_succ {D : List Str} {x : Str} {i : Nat} (h : D[i]? = some x) : allP D (i + 1) = allP D i ++ rowP D x D.length := by
  unfold allP
  rw [List.take_add_one, h, List.flatMap_append]
  simp
theorem allP_mem {D : List Str} {x y : Str} : (x, y) ∈ allP D D.length ↔ x ∈ D ∧ y ∈ D ∧ ¬ (x = eps ∧ y = eps) := by
  unfold allP rowP
  rw [List.take_length, List.mem_flatMap]
  constructor
  · rintro ⟨a, ha, h⟩
    obtain ⟨b, hb, e⟩ := List.mem_map.mp h
    cases e
    obtain ⟨h1, h2⟩ := List.mem_filter.mp hb
    refine ⟨ha, h1, fun z => ?_⟩
    unfold full2 at h2
    rw [z.1, z.2] at h2
    simp at h2
  · rintro ⟨h1, h2, h3⟩
    refine ⟨x, h1, List.mem_map.mpr ⟨y, List.mem_filter.mpr ⟨h2, ?_⟩, rfl⟩⟩
    unfold full2
    by_cases z : x = eps
    · by_cases z2 : y = eps
      · exact (h3 ⟨z, z2⟩).elim
      · simp [z2]
    · simp [z]
theorem rowP_len {D : List Str} {x : Str} {j : Nat} : (rowP D x j).length ≤ D.length := by
  unfold rowP
  rw [List.length_map]
  refine Nat.le_trans (List.length_filter_le _ _) ?_
  rw [List.length_take]
  omega
theorem allP_len {D : List Str} : ∀ {i : Nat}, i ≤ D.length → (allP D i).length ≤ i * D.length
  | 0, _ => by unfold allP; simp
  | i + 1, h => by
    have hi : i < D.length := h
    rw [allP_succ (List.getElem?_eq_getElem hi), List.length_append, Nat.succ_mul]
    have := allP_len (D := D) (i := i) (by omega)
    have := rowP_len (D := D) (x := D[i]) (j := D.length)
    omega
def spPC (C : Addr) : Sp := fun vs H Q _ => ∃ v cs p, vs = [v] ∧ PrAt C H v cs p ∧ Alp cs ∧ ∀ e H', Same H H' → H e = none → WAt H' e cs p → Q (.ref e) H'
section
variable {P : Program} {w : World} {K : PySem.W.Frag} {mg : Str → Option Value} {base : Heap}
abbrev spair_costs : Stmt := top 37
theorem scpair_costs : FnScope ["prices", "symbols", "pairs", "x", "y"] ["prices"] (defScope spair_costs) := ⟨rfl, rfl, rfl, by decide +kernel, rfl, by decide +kernel, by decide +kernel⟩
theorem ok_pc {C f f1 f2 : Addr} {fd fd1 fd2 : FuncData} (F : Fun K "pair_costs" "pair_costs" spair_costs f fd) (T : Txt mg base)
    (D_Prices_alphabet : Dm P w K mg base CX0 1 C "alphabet" f1 fd1 ["self"] (spAlpha C)) (D_Prices_cost : Dm P w K mg base CX0 4 C "cost" f2 fd2 ["self", "source", "target"] (spCost C)) : FnG P w K mg base CX0 5 f fd ["prices"] (spPC C) := by
  refine okG F scpair_costs (fun vs H Q E h => ?_) (fun cdv A outer s H vs Q E hc hr h => ?_)
  · obtain ⟨v, cs, p, rfl, _⟩ := h
    rfl
  obtain ⟨v, cs, p, rfl, pr, al, q⟩ := h
  refine ⟨_, (pss_cons (ps_set (i := 1) scpair_costs.nd rfl (Or.inr rfl) (pe_op op_cat (pe_lst (pa_cons pe_str pa_nil)) (pe_callTy (call_listX rfl) (by rfl) T.z_list (by decide +kernel) (pa_cons (pe_mt0 D_Prices_alphabet hc (hr.mono (by omega)) (fun _ => passN) (pv 0)) pa_nil))))
 (pss_cons (ps_setLc2 (i := 2) (own := [("x", 3), ("y", 4)]) (vs1 := [4]) (g := gName 3) (g1 := gName 4) rfl scpair_costs.nd rfl rfl (sw_true rfl rfl rfl (by decide +kernel)) (pi_list (pv 1)) (blkOk_by (N := ["prices", "symbols", "pairs", "x", "y"]) (sc := defScope spair_costs) (by decide +kernel)) (by decide) (fun _ _ _ _ _ => pg_name (i := 3) scpair_costs.nd rfl (Or.inl rfl)) (fun _ _ _ _ _ => pts_nil) (fun _ _ _ _ _ => (pi_listK (K := K) rfl (pv 1))) (fun _ _ _ _ _ => pg_name (i := 4) scpair_costs.nd rfl (Or.inl rfl)) (fun _ _ _ _ _ => (pts_one (PW.pt (pw_or (pt_cmpR op_ne (pv 3) pe_str (nomark _)) (pw_or1 (pt_cmpR op_ne (pv 4) pe_str (nomark _))))))) (fun _ _ _ _ _ => (pe_tup (pa_cons (pv 3) (pa_cons (pv 4) pa_nil)))))
 (pss_one (ps_ret (pe_dcT (own := [("x", 3), ("y", 4)]) (g := _) (hu_of hr) rfl scpair_costs.nd (pi_list (pv 2)) (blkOk_by (N := ["prices", "symbols", "pairs", "x", "y"]) (sc := defScope spair_costs) (by decide +kernel)) (fun _ _ _ _ _ => (pg_tupK (K := K) (n := 2) rfl rfl (pgs_cons (pg_name (i := 3) scpair_costs.nd rfl (Or.inl rfl)) (pgs_cons (pg_name (i := 4) scpair_costs.nd rfl (Or.inl rfl)) pgs_nil)))) (fun _ _ _ _ _ => (pts_one (pt_cmpR op_notN (pe_mt D_Prices_cost hc (hr.mono (by omega)) (fun _ => passN) (pv 0) (pa_cons (pv 3) (pa_cons (pv 4) pa_nil))) pe_non (nomark _)))) (fun _ _ _ _ _ => (pe_tup (pa_cons (pv 3) (pa_cons (pv 4) pa_nil)))) (fun _ _ _ _ _ => (pe_mt D_Prices_cost hc (hr.mono (by omega)) (fun _ => passN) (pv 0) (pa_cons (pv 3) (pa_cons (pv 4) pa_nil))))))))), ?_⟩
  have sz := sizeLine_eq
  obtain ⟨a, dx, d0, d1, d2, m, rfl, ha, _⟩ := id pr
  have l7 := al.lens
  refine ⟨by show 1 ≤ sizeLine; decide, fun l1 hl1 => ?_⟩
  have sA := same_new (o := .lst [.str (Str.ofString "")]) hl1
  refine ⟨_, rfl, a, dx, _, rfl, sA _ _ ha, rfl, .ref a, cs, p, rfl, pr.same sA, ?_⟩
  have al6 := al.len
  have aln : (alph cs).length = cs.length := rfl
  refine ⟨_, rfl, by omega, fun l2 hl2 => ?_⟩
  have sB := same_new (o := .lst ((signs (alph cs)).map V.str)) hl2
  have sgl : (signs (alph cs)).length = cs.length := by rw [signs_eq, List.length_map, alph_list]
  refine ⟨l1, l2, _, _, rfl, rfl, sB _ _ upd_same, upd_same, by rw [List.length_map, sgl, List.length_singleton]; omega, fun l3 hl3 => ?_⟩
  have eS : [V.str (Str.ofString "")] ++ (signs (alph cs)).map V.str = (symL cs).map V.str := by rw [signs_eq, alph_list]; rfl
  rw [eS]
  have sC := sA.trans (sB.trans (same_new (o := .lst ((symL cs).map V.str)) hl3))
  have hl := upd_same (H := upd (upd H l1 (.lst [.str (Str.ofString "")])) l2 (.lst ((signs (alph cs)).map V.str))) (a := l3) (o := .lst ((symL cs).map V.str))
  generalize upd (upd (upd H l1 (.lst [.str (Str.ofString "")])) l2 (.lst ((signs (alph cs)).map V.str))) l3 (.lst ((symL cs).map V.str)) = H3 at sC hl ⊢
  clear sA sB hl1 hl2 hl3
  have atD : ∀ {i : Nat} {x : V}, ((symL cs).map V.str)[i]? = some x → ∃ X, (symL cs)[i]? = some X ∧ x = .str X := fun {i x} h => by
    rw [List.getElem?_map] at h
    cases e : (symL cs)[i]? with
    | none => rw [e] at h; exact nomatch h
    | some X => rw [e] at h; exact ⟨X, rfl, (Option.some.inj h).symm⟩
  have pr3 := pr.same sC
  refine ⟨_, rfl, l3, rfl, ⟨_, SqL.of hl⟩, fun L hL => ?_⟩
  refine walk_W (L2.walk_list (xs := (symL cs).map V.str)) (fun i H' => Same H3 H' ∧ ∃ us, H' L = some (.lst us) ∧ PrsAt H' us (allP (symL cs) i)) ⟨same_new hL, [], upd_same, .nil⟩ (fun i H' _ pv => SqL.of (pv.1 _ _ hl)) ?_ ?_
  · rintro i v H4 _ lt ⟨s4, us, q1, q2⟩ ⟨rfl, hx⟩
    rename_i H4
    obtain ⟨X, hX, rfl⟩ := atD hx
    have mX := List.mem_of_getElem? hX
    have hi : i < (symL cs).length := (List.getElem?_eq_some_iff.mp hX).1
    rw [allP_succ hX]
    refine ⟨rfl, yes_go ⟨_, rfl, l3, rfl, ⟨_, SqL.of (s4 _ _ hl)⟩, ?_⟩⟩
    refine walk_W (L2.walk_list (xs := (symL cs).map V.str)) (fun j H' => Same H3 H' ∧ ∃ us, H' L = some (.lst us) ∧ PrsAt H' us (allP (symL cs) i ++ rowP (symL cs) X j)) ⟨s4, us, q1, by unfold rowP; simpa using q2⟩ (fun i H' _ pv => SqL.of (pv.1 _ _ hl)) ?_ ?_
    · clear q1 q2 s4 us
      rintro j v H4 _ ltj ⟨s4, us, q1, q2⟩ ⟨rfl, hy⟩
      rename_i H4
      obtain ⟨Y, hY, rfl⟩ := atD hy
      have mY := List.mem_of_getElem? hY
      rw [rowP_succ hY, ← List.append_assoc]
      have put : full2 X Y = true → ∀ (t : Addr), H4 t = none → (upd H4 t (.tup [.str X, .str Y])) L = some (.lst us) ∧ us.length < sizeLine ∧ Same H3 (upd (upd H4 t (.tup [.str X, .str Y])) L (.lst (us ++ [.ref t]))) ∧ ∃ us', (upd (upd H4 t (.tup [.str X, .str Y])) L (.lst (us ++ [.ref t]))) L = some (.lst us') ∧
          PrsAt (upd (upd H4 t (.tup [.str X, .str Y])) L (.lst (us ++ [.ref t]))) us' (allP (symL cs) i ++ rowP (symL cs) X j ++ if full2 X Y = true then [(X, Y)] else []) := fun ff t ht => by
        have st := same_new (o := .tup [V.str X, .str Y]) ht
        refine ⟨st _ _ q1, ?_, fun b o hb => ?_, _, upd_same, ?_⟩
        · rw [q2.len, List.length_append]
          have a1 := allP_len (D := symL cs) (i := i) (by omega)
          have a2 := rowP_len (D := symL cs) (x := X) (j := j)
          have a3 : i * (symL cs).length ≤ 7 * 7 := Nat.mul_le_mul (by omega) l7
          omega
        · rw [upd_ne (ne_of_none hb hL)]
          exact st _ _ (s4 _ _ hb)
        · rw [if_pos ff]
          refine PrsAt.app ((q2.same st).upd (st _ _ q1)) (.cons ?_ .nil)
          rw [upd_ne (fun z => by rw [z, q1] at ht; exact nomatch ht)]
          exact upd_same
      have eq1 : ∀ Z : Str, (!decide (V.str Z = V.str (Str.ofString ""))) = !decide (Z = eps) := fun Z => by
        congr 1
        exact decide_eq_decide.mpr ⟨fun z => by injection z, fun z => by rw [z]⟩
      refine ⟨rfl, _, rfl, rfl, _, rfl, ?_⟩
      rw [eq1]
      by_cases zx : X = eps
      · rw [decide_eq_true zx]
        refine iteF ⟨_, rfl, rfl, _, rfl, ?_⟩
        rw [eq1]
        by_cases zy : Y = eps
        · have ff : full2 X Y = false := by unfold full2; rw [decide_eq_true zx, decide_eq_true zy]; rfl
          rw [decide_eq_true zy, ff]
          refine iteF ⟨s4, us, q1, ?_⟩
          rw [if_neg (fun z => nomatch z), List.append_nil]
          exact q2
        · have ff : full2 X Y = true := by unfold full2; rw [decide_eq_true zx, decide_eq_false zy]; rfl
          rw [decide_eq_false zy]
          refine iteT ⟨_, rfl, _, rfl, by show 2 ≤ sizeLine; decide, fun t ht => ?_⟩
          obtain ⟨p1, p2, p3, p4⟩ := put ff t ht
          exact ⟨us, p1, p2, p3, p4⟩
      · have ff : full2 X Y = true := by unfold full2; rw [decide_eq_false zx]; rfl
        rw [decide_eq_false zx]
        refine iteT (iteT ⟨_, rfl, _, rfl, by show 2 ≤ sizeLine; decide, fun t ht => ?_⟩)
        obtain ⟨p1, p2, p3, p4⟩ := put ff t ht
        exact ⟨us, p1, p2, p3, p4⟩
    · rintro H5 ⟨s5, us', r1, r2⟩
      rw [List.length_map] at r2
      exact ⟨s5, us', r1, r2⟩
  · rintro H4 ⟨s4, us, q1, q2⟩
    rw [List.length_map] at q2
    have pr4 := pr3.same s4
    have ll : us.length ≤ 7 * 7 := by
      rw [q2.len]
      exact Nat.le_trans (allP_len (Nat.le_refl _)) (Nat.mul_le_mul l7 l7)
    have okP : ∀ q ∈ allP (symL cs) (symL cs).length, q.1 ∈ symL cs ∧ q.2 ∈ symL cs := fun q hq => by
      have := allP_mem.mp (show (q.1, q.2) ∈ _ from hq)
      exact ⟨this.1, this.2.1⟩
    have fin : ∀ x y : Str, ∀ kvs, (valV kvs (kk x y)).getD .non = (if (x, y) ∈ allP (symL cs) (symL cs).length then oV (spn cs p x y) else .non) → x ∈ symL cs → y ∈ symL cs → (valV kvs (kk x y)).getD .non = oV (wgt cs p x y) := fun x y kvs h hx hy => by
      rw [h]
      unfold wgt
      by_cases z : x = eps ∧ y = eps
      · rw [if_neg (fun m => (allP_mem.mp m).2.2 z), if_neg (fun q => q.2.2 z)]
        rfl
      · rw [if_pos (allP_mem.mpr ⟨hx, hy, z⟩), if_pos ⟨hx, hy, z⟩]
    generalize allP (symL cs) (symL cs).length = ps at q2 okP fin
    refine ⟨_, rfl, L, rfl, ⟨_, SqL.of q1⟩, fun e he => ?_⟩
    have hne : H e = none := same_free (sC.trans s4) he
    refine walk_W (L2.walk_list (xs := us)) (fun i H' => Same H4 H' ∧ ∃ kvs, H' e = some (.dT kvs) ∧ kvs.length ≤ i ∧ ∀ x y : Str, (valV kvs (kk x y)).getD .non = if (x, y) ∈ ps.take i then oV (spn cs p x y) else .non) ⟨same_new he, [], upd_same, Nat.le_refl _, fun x y => by rw [if_neg (by simp)]; rfl⟩ (fun i H' _ pv => SqL.of (pv.1 _ _ q1)) ?_ ?_
    · rintro i v H5 _ lt ⟨s5, kvs, r1, r2, r3⟩ ⟨rfl, hx⟩
      rename_i H5
      obtain ⟨t, x, y, rfl, ht, hl2⟩ := q2.at hx
      obtain ⟨mx, my⟩ := okP _ (List.mem_of_getElem? hl2)
      have pr5 := pr4.same s5
      have tk : ∀ q, q ∈ ps.take (i + 1) ↔ q ∈ ps.take i ∨ q = (x, y) := fun q => by
        rw [List.take_add_one, hl2, List.mem_append]
        simp
      refine ⟨t, _, rfl, SqT.of (s5 _ _ ht), rfl, _, _, rfl, _, _, rfl, rfl, rfl, ?_⟩
      refine ⟨_, rfl, a, dx, _, rfl, s5 _ _ (s4 _ _ (sC _ _ ha)), rfl, _, rfl, _, rfl, .ref a, x, y, cs, p, rfl, pr5, al, mx, my, fun H6 s6 => ⟨rfl, _, rfl, ?_⟩⟩
      rw [oV_non]
      cases ec : spn cs p x y with
      | none =>
        refine iteF ⟨s5.trans s6, kvs, s6 _ _ r1, by omega, fun u v => ?_⟩
        rw [r3 u v]
        by_cases z : (u, v) ∈ ps.take i
        · rw [if_pos z, if_pos ((tk _).mpr (.inl z))]
        · rw [if_neg z]
          by_cases z2 : (u, v) = (x, y)
          · cases z2
            rw [if_pos ((tk _).mpr (.inr rfl)), ec]
            rfl
          · rw [if_neg (fun m => ((tk _).mp m).elim z z2)]
      | some c =>
        refine iteT ⟨_, rfl, _, rfl, by show 2 ≤ sizeLine; decide, fun b hb => ?_⟩
        have sb := same_new (o := .tup [V.str x, .str y]) hb
        have s7 := s5.trans (s6.trans sb)
        refine ⟨_, rfl, a, dx, _, rfl, s7 _ _ (s4 _ _ (sC _ _ ha)), rfl, _, rfl, _, rfl, .ref a, x, y, cs, p, rfl, pr4.same s7, al, mx, my, fun H8 s8 => ?_⟩
        rw [ec]
        refine ⟨kvs, kk x y, b, rfl, s8 _ _ (sb _ _ (s6 _ _ r1)), s8 _ _ upd_same, by omega, fun d o hd => ?_, _, upd_same, ?_, fun u v => ?_⟩
        · rw [upd_ne (ne_of_none hd he)]
          exact s8 _ _ (s7 _ _ hd)
        · exact Nat.le_trans (length_putK _ _ _) (by omega)
        · rw [valV_put]
          by_cases z2 : (u, v) = (x, y)
          · cases z2
            rw [if_pos rfl, if_pos ((tk _).mpr (.inr rfl)), ec]
            rfl
          · rw [if_neg (kk_ne (fun z => z2 (by rw [z.1, z.2]))), r3 u v]
            by_cases z : (u, v) ∈ ps.take i
            · rw [if_pos z, if_pos ((tk _).mpr (.inl z))]
            · rw [if_neg z, if_neg (fun m => ((tk _).mp m).elim z z2)]
    · rintro H5 ⟨s5, kvs, r1, r2, r3⟩
      rw [q2.len, List.take_length] at r3
      exact q e _ (sC.trans (s4.trans s5)) hne ⟨kvs, r1, fun x hx y hy => fin x y kvs (r3 x y) hx hy⟩
end
end KC

namespace KC
open PySem L2 Gd Fw KM
/-! ### the queue -/
abbrev ltE (a b : Dk.E) : Bool := HT.lexLt [a.1, (a.2.1 : Int), (a.2.2 : Int)] [b.1, (b.2.1 : Int), (b.2.2 : Int)]
def OkE (H : Hp) (p : V × Dk.E) : Prop := ∃ a, p.1 = .ref a ∧ H a = some (.tup [.int p.2.1, .int (p.2.2.1 : Nat), .int (p.2.2.2 : Nat)])
def QAt (H : Hp) (xs : List V) (q : List Dk.E) : Prop := ∃ zs : List {p : V × Dk.E // OkE H p}, xs = zs.map (fun z => z.1.1) ∧ q = zs.map fun z => z.1.2
section
variable {H H' : Hp} {xs : List V} {q r : List Dk.E} {v : V} {e : Dk.E} {p : V × Dk.E}
theorem OkE.tup (h : OkE H p) : TupI H p.1 := by
  obtain ⟨a, h1, h2⟩ := h
  exact ⟨a, [p.2.1, (p.2.2.1 : Nat), (p.2.2.2 : Nat)], h1, h2⟩
theorem OkE.k (h : OkE H p) : kT H p.1 = [p.2.1, (p.2.2.1 : Int), (p.2.2.2 : Int)] := by
  obtain ⟨a, h1, h2⟩ := h
  rw [h1]
  show (match H a with
    | some (.tup xs) => intsOf xs
    | _ => []) = _
  rw [h2]
  rfl
theorem QAt.mono (e : ∀ b xs, H b = some (.tup xs) → H' b = some (.tup xs)) : QAt H xs q → QAt H' xs q := by
  rintro ⟨zs, rfl, rfl⟩
  refine ⟨zs.map fun z => ⟨z.1, let ⟨a, h1, h2⟩ := z.2; ⟨a, h1, e _ _ h2⟩⟩, ?_, ?_⟩
  · rw [List.map_map]
    rfl
  · rw [List.map_map]
    rfl
theorem QAt.tups (h : QAt H xs q) : ∀ x ∈ xs, TupI H x := by
  obtain ⟨zs, rfl, rfl⟩ := h
  intro x hx
  obtain ⟨z, _, rfl⟩ := List.mem_map.mp hx
  exact z.2.tup
theorem QAt.len (h : QAt H xs q) : xs.length = q.length := by
  obtain ⟨zs, rfl, rfl⟩ := h
  rw [List.length_map, List.length_map]
theorem lt_eq (a b : {p : V × Dk.E // OkE H p}) : ltT H a.1.1 b.1.1 = ltE a.1.2 b.1.2 := by
  show HT.lexLt _ _ = _
  rw [a.2.k, b.2.k]
theorem QAt.push (h : QAt H xs q) (hv : OkE H (v, e)) : QAt H (Hq.up (ltT H) (xs ++ [v]) xs.length) (Dk.push ltE q e) := by
  obtain ⟨zs, rfl, rfl⟩ := h
  refine ⟨Hq.up (fun a b => ltE a.1.2 b.1.2) (zs ++ [⟨(v, e), hv⟩]) zs.length, ?_, ?_⟩
  · rw [List.length_map]
    have := Hq.up_map (f := fun z : {p : V × Dk.E // OkE H p} => z.1.1) (lt := ltT H) (lt' := fun a b => ltE a.1.2 b.1.2) lt_eq zs.length (zs ++ [⟨(v, e), hv⟩])
    rw [List.map_append] at this
    exact this
  · unfold Dk.push
    rw [List.length_map]
    have := Hq.up_map (f := fun z : {p : V × Dk.E // OkE H p} => z.1.2) (lt := ltE) (lt' := fun a b => ltE a.1.2 b.1.2) (fun _ _ => rfl) zs.length (zs ++ [⟨(v, e), hv⟩])
    rw [List.map_append] at this
    exact this
theorem QAt.pop (h : QAt H xs q) : QAt H (Hq.popped (ltT H) xs) (Hq.popped ltE q) := by
  obtain ⟨zs, rfl, rfl⟩ := h
  exact ⟨Hq.popped (fun a b => ltE a.1.2 b.1.2) zs, Hq.popped_map (f := fun z : {p : V × Dk.E // OkE H p} => z.1.1) lt_eq zs, Hq.popped_map (f := fun z : {p : V × Dk.E // OkE H p} => z.1.2) (fun _ _ => rfl) zs⟩
theorem QAt.head (h : QAt H xs (e :: r)) : ∃ a, xs[0]? = some (.ref a) ∧ H a = some (.tup [.int e.1, .int (e.2.1 : Nat), .int (e.2.2 : Nat)]) := by
  obtain ⟨zs, rfl, hz⟩ := h
  match zs, hz with
  | z :: zs, hz =>
    rw [List.map_cons] at hz
    injection hz with h1 h2
    obtain ⟨a, g1, g2⟩ := z.2
    refine ⟨a, ?_, ?_⟩
    · show some z.1.1 = _
      rw [g1]
    · rw [h1]
      exact g2
theorem QAt.nil (h : QAt H [] q) : q = [] := by
  have := h.len
  exact List.length_eq_zero_iff.mp this.symm
end
/-! ### tables of cells -/
def mRow (m : Nat) (R : Nat → V) : List V := (List.range (m + 1)).map R
theorem mRow_len {m : Nat} {R : Nat → V} : (mRow m R).length = m + 1 := by
  unfold mRow
  rw [List.length_map, List.length_range]
theorem mRow_at {m j : Nat} {R : Nat → V} (h : j ≤ m) : (mRow m R)[j]? = some (R j) := by
  unfold mRow
  rw [List.getElem?_map, List.getElem?_range (by omega)]
  rfl
theorem mRow_congr {m : Nat} {R S : Nat → V} (h : ∀ j, j ≤ m → R j = S j) : mRow m R = mRow m S := by
  unfold mRow
  refine List.map_congr_left fun j hj => h j ?_
  have := List.mem_range.mp hj
  omega
theorem mRow_set {m j : Nat} {R : Nat → V} {v : V} : (mRow m R).set j v = mRow m fun b => if b = j then v else R b := by
  refine List.ext_getElem? fun b => ?_
  by_cases hb : b ≤ m
  · rw [mRow_at hb]
    by_cases z : b = j
    · subst z
      rw [List.getElem?_set_self (by rw [mRow_len]; omega), if_pos rfl]
    · rw [List.getElem?_set_ne (fun e => z e.symm), mRow_at hb, if_neg z]
  · rw [List.getElem?_eq_none (by rw [List.length_set, mRow_len]; omega), List.getElem?_eq_none (by rw [mRow_len]; omega)]
structure Mx (H : Hp) (F : Addr) (rs : List Addr) (n m : Nat) (R : Nat → Nat → V) : Prop where
  hF : H F = some (.lst (rs.map V.ref))
  len : rs.length = n + 1
  at_ : ∀ i a, rs[i]? = some a → H a = some (.lst (mRow m (R i)))
section
variable {H H' : Hp} {F : Addr} {rs : List Addr} {n m : Nat} {R : Nat → Nat → V}
theorem Mx.keep (h : Mx H F rs n m R) (e : ∀ b ∈ F :: rs, H' b = H b) : Mx H' F rs n m R :=
  ⟨by rw [e F List.mem_cons_self]; exact h.hF, h.len, fun i a hi => by rw [e a (List.mem_cons_of_mem _ (List.mem_of_getElem? hi))]; exact h.at_ i a hi⟩
theorem Mx.row (h : Mx H F rs n m R) {i : Nat} (hi : i ≤ n) : ∃ a, rs[i]? = some a ∧ H a = some (.lst (mRow m (R i))) := by
  have l := h.len
  have e : rs[i]? = some (rs[i]'(by omega)) := List.getElem?_eq_getElem (by omega)
  exact ⟨_, e, h.at_ i _ e⟩
theorem Mx.set (h : Mx H F rs n m R) (nd : (F :: rs).Nodup) {i j : Nat} {a : Addr} (ha : rs[i]? = some a) {v : V} : Mx (upd H a (.lst ((mRow m (R i)).set j v))) F rs n m (Dk.up2 R i j v) := by
  obtain ⟨nF, nr⟩ := List.nodup_cons.mp nd
  have ma := List.mem_of_getElem? ha
  refine ⟨by rw [upd_ne (fun e => nF (by rw [e]; exact ma))]; exact h.hF, h.len, fun k b hb => ?_⟩
  by_cases z : k = i
  · subst z
    rw [ha] at hb
    cases hb
    rw [upd_same, mRow_set]
    congr 2
    refine mRow_congr fun b _ => ?_
    unfold Dk.up2
    by_cases zb : b = j
    · rw [if_pos zb, if_pos ⟨rfl, zb⟩]
    · rw [if_neg zb, if_neg fun z => zb z.2]
  · have nb : b ≠ a := fun e => by
      subst e
      have g1 := List.getElem?_eq_some_iff.mp hb
      have g2 := List.getElem?_eq_some_iff.mp ha
      exact z ((List.getElem_inj nr).mp (g1.2.trans g2.2.symm))
    rw [upd_ne nb, h.at_ k b hb]
    congr 2
    refine mRow_congr fun c _ => ?_
    unfold Dk.up2
    rw [if_neg fun w => z w.1]
end
def StpAt (H : Hp) (v : V) : Option (Str × Str × Nat × Nat) → Prop
  | none => v = .non
  | some (x, y, i, j) => ∃ a, v = .ref a ∧ H a = some (.tup [.str x, .str y, .int (i : Nat), .int (j : Nat)])
theorem StpAt.mono {H H' : Hp} {v : V} {o : Option (Str × Str × Nat × Nat)} (e : ∀ b xs, H b = some (.tup xs) → H' b = some (.tup xs)) (h : StpAt H v o) : StpAt H' v o := by
  match o, h with
  | none, h => exact h
  | some (x, y, i, j), ⟨a, h1, h2⟩ => exact ⟨a, h1, e _ _ h2⟩
structure Sst (G : Hp) (F S Q : Addr) (rf rg : List Addr) (n m : Nat) (D : Dk.St Str) (H : Hp) : Prop where
  sm : Same G H
  fr : ∀ a ∈ F :: S :: Q :: (rf ++ rg), G a = none
  nd : (F :: S :: Q :: (rf ++ rg)).Nodup
  mf : Mx H F rf n m (fun i j => oV (D.f i j))
  ms : ∃ R, Mx H S rg n m R ∧ ∀ i j, StpAt H (R i j) (D.g i j)
  hq : ∃ xs, H Q = some (.lst xs) ∧ QAt H xs D.q
section
variable {G H H' : Hp} {F S Q : Addr} {rf rg : List Addr} {n m : Nat} {D : Dk.St Str}
theorem upd_tup {a : Addr} {xs : List V} {o : HO} (ha : H a = some (.lst xs)) : ∀ b ys, H b = some (.tup ys) → (upd H a o) b = some (.tup ys) := fun b ys hb => by
  rw [upd_ne (fun e => by rw [e, ha] at hb; exact nomatch hb)]
  exact hb
theorem Sst.same (h : Sst G F S Q rf rg n m D H) (e : Same H H') : Sst G F S Q rf rg n m D H' := by
  obtain ⟨R, m1, m2⟩ := h.ms
  obtain ⟨xs, q1, q2⟩ := h.hq
  exact ⟨h.sm.trans e, h.fr, h.nd, ⟨e _ _ h.mf.hF, h.mf.len, fun i a hi => e _ _ (h.mf.at_ i a hi)⟩, ⟨R, ⟨e _ _ m1.hF, m1.len, fun i a hi => e _ _ (m1.at_ i a hi)⟩, fun i j => (m2 i j).mono fun b _ z => e b _ z⟩,
    ⟨xs, e _ _ q1, q2.mono fun b _ z => e b _ z⟩⟩
theorem Sst.sep (h : Sst G F S Q rf rg n m D H) : F ≠ S ∧ F ≠ Q ∧ S ≠ Q ∧ (∀ a ∈ rf, a ≠ F ∧ a ≠ S ∧ a ≠ Q ∧ a ∉ rg) ∧ (∀ a ∈ rg, a ≠ F ∧ a ≠ S ∧ a ≠ Q ∧ a ∉ rf) ∧ (F :: rf).Nodup ∧ (S :: rg).Nodup := by
  obtain ⟨n1, h1⟩ := List.nodup_cons.mp h.nd
  obtain ⟨n2, h2⟩ := List.nodup_cons.mp h1
  obtain ⟨n3, h3⟩ := List.nodup_cons.mp h2
  obtain ⟨h4, h5, h6⟩ := List.nodup_append.mp h3
  refine ⟨fun e => n1 (by rw [e]; simp), fun e => n1 (by rw [e]; simp), fun e => n2 (by rw [e]; simp), fun a ha => ⟨?_, ?_, ?_, fun hb => h6 a ha a hb rfl⟩, fun a ha => ⟨?_, ?_, ?_, fun hb => h6 a hb a ha rfl⟩, List.nodup_cons.mpr ⟨fun e => n1 (by simp [e]), h4⟩, List.nodup_cons.mpr ⟨fun e => n2 (by simp [e]), h5⟩⟩
  · exact fun e => n1 (by rw [← e]; simp [ha])
  · exact fun e => n2 (by rw [← e]; simp [ha])
  · exact fun e => n3 (by rw [← e]; simp [ha])
  · exact fun e => n1 (by rw [← e]; simp [ha])
  · exact fun e => n2 (by rw [← e]; simp [ha])
  · exact fun e => n3 (by rw [← e]; simp [ha])
theorem Sst.sm_upd (h : Sst G F S Q rf rg n m D H) {a : Addr} {o : HO} (ha : a ∈ F :: S :: Q :: (rf ++ rg)) : Same G (upd H a o) := fun b u hb => by
  rw [upd_ne (fun e => by rw [e, h.fr a ha] at hb; exact nomatch hb)]
  exact h.sm b u hb
theorem Sst.putf (h : Sst G F S Q rf rg n m D H) {i j : Nat} {a : Addr} {v : Co} (ha : rf[i]? = some a) : Sst G F S Q rf rg n m ⟨Dk.up2 D.f i j v, D.g, D.q⟩ (upd H a (.lst ((mRow m fun j => oV (D.f i j)).set j (oV v)))) := by
  obtain ⟨s1, s2, s3, s4, s5, s6, s7⟩ := h.sep
  have ma := List.mem_of_getElem? ha
  obtain ⟨a1, a2, a3, a4⟩ := s4 a ma
  have hl := h.mf.at_ i a ha
  have tp := upd_tup (o := .lst ((mRow m fun j => oV (D.f i j)).set j (oV v))) hl
  obtain ⟨R, m1, m2⟩ := h.ms
  obtain ⟨xs, q1, q2⟩ := h.hq
  refine ⟨h.sm_upd (by simp [ma]), h.fr, h.nd, ?_, ⟨R, m1.keep fun b hb => ?_, fun i j => (m2 i j).mono tp⟩, ⟨xs, by rw [upd_ne a3.symm]; exact q1, q2.mono tp⟩⟩
  · have := h.mf.set s6 ha (j := j) (v := oV v)
    refine ⟨this.hF, this.len, fun k b hb => ?_⟩
    rw [this.at_ k b hb]
    congr 2
    refine mRow_congr fun c _ => ?_
    show Dk.up2 _ i j (oV v) k c = oV (Dk.up2 D.f i j v k c)
    unfold Dk.up2
    split <;> rfl
  · rw [upd_ne fun e => ?_]
    rcases List.mem_cons.mp hb with hb | hb
    · exact a2 (e.symm.trans hb)
    · exact a4 (by rw [← e]; exact hb)
theorem Sst.putg (h : Sst G F S Q rf rg n m D H) {i j : Nat} {a : Addr} {v : V} {o : Option (Str × Str × Nat × Nat)} {ys : List V} (ha : rg[i]? = some a) (hy : H a = some (.lst ys)) (ho : StpAt H v o) : Sst G F S Q rf rg n m ⟨D.f, Dk.up2 D.g i j o, D.q⟩ (upd H a (.lst (ys.set j v))) := by
  obtain ⟨s1, s2, s3, s4, s5, s6, s7⟩ := h.sep
  have ma := List.mem_of_getElem? ha
  obtain ⟨a1, a2, a3, a4⟩ := s5 a ma
  obtain ⟨R, m1, m2⟩ := h.ms
  have hl := m1.at_ i a ha
  rw [hy] at hl
  cases hl
  have tp := upd_tup (o := .lst ((mRow m (R i)).set j v)) hy
  obtain ⟨xs, q1, q2⟩ := h.hq
  refine ⟨h.sm_upd (by simp [ma]), h.fr, h.nd, h.mf.keep fun b hb => ?_, ⟨Dk.up2 R i j v, m1.set s7 ha, fun k c => ?_⟩, ⟨xs, by rw [upd_ne a3.symm]; exact q1, q2.mono tp⟩⟩
  · rw [upd_ne fun e => ?_]
    rcases List.mem_cons.mp hb with hb | hb
    · exact a1 (e.symm.trans hb)
    · exact a4 (by rw [← e]; exact hb)
  · show StpAt _ (Dk.up2 R i j v k c) (Dk.up2 D.g i j o k c)
    by_cases z : k = i ∧ c = j
    · rw [z.1, z.2, Dk.up2_same, Dk.up2_same]
      exact ho.mono tp
    · rw [Dk.up2_ne z, Dk.up2_ne z]
      exact (m2 k c).mono tp
theorem Sst.putq (h : Sst G F S Q rf rg n m D H) {xs : List V} {q : List Dk.E} (hx : QAt H xs q) : Sst G F S Q rf rg n m ⟨D.f, D.g, q⟩ (upd H Q (.lst xs)) := by
  obtain ⟨s1, s2, s3, s4, s5, s6, s7⟩ := h.sep
  obtain ⟨ys, q1, q2⟩ := h.hq
  have tp := upd_tup (o := .lst xs) q1
  obtain ⟨R, m1, m2⟩ := h.ms
  refine ⟨h.sm_upd (by simp), h.fr, h.nd, h.mf.keep fun b hb => ?_, ⟨R, m1.keep fun b hb => ?_, fun i j => (m2 i j).mono tp⟩, ⟨xs, upd_same, hx.mono tp⟩⟩
  · rw [upd_ne fun e => ?_]
    rcases List.mem_cons.mp hb with hb | hb
    · exact s2 (hb.symm.trans e)
    · exact (s4 b hb).2.2.1 e
  · rw [upd_ne fun e => ?_]
    rcases List.mem_cons.mp hb with hb | hb
    · exact s3 (hb.symm.trans e)
    · exact (s5 b hb).2.2.1 e
end
/-! ### new rows of nothing -/
structure NwR (G H : Hp) (D : Addr) (rs : List Addr) (w : Nat) : Prop where
  sm : Same G H
  hD : H D = some (.lst (rs.map V.ref))
  nd : (D :: rs).Nodup
  fr : ∀ a ∈ D :: rs, G a = none
  at_ : ∀ a ∈ rs, H a = some (.lst (List.replicate w .non))
theorem NwR.add {G H : Hp} {D a : Addr} {rs : List Addr} {w : Nat} {H' : Hp} (h : NwR G H D rs w) (e : ∀ b o, H b = some o → H' b = some o) (ha : H a = none) (ha' : H' a = some (.lst (List.replicate w .non))) : NwR G (upd H' D (.lst (rs.map V.ref ++ [.ref a]))) D (rs ++ [a]) w := by
  obtain ⟨n1, n2⟩ := List.nodup_cons.mp h.nd
  have naD : a ≠ D := fun z => by rw [z, h.hD] at ha; exact nomatch ha
  have nar : a ∉ rs := fun z => by rw [h.at_ a z] at ha; exact nomatch ha
  refine ⟨fun b o hb => ?_, by rw [upd_same, List.map_append]; rfl, List.nodup_cons.mpr ⟨fun z => ?_, ?_⟩, fun b hb => ?_, fun b hb => ?_⟩
  · rw [upd_ne (fun z => by rw [z, h.fr D List.mem_cons_self] at hb; exact nomatch hb)]
    exact e _ _ (h.sm b o hb)
  · rcases List.mem_append.mp z with z | z
    · exact n1 z
    · exact naD (List.mem_singleton.mp z).symm
  · rw [List.nodup_append]
    refine ⟨n2, List.nodup_cons.mpr ⟨List.not_mem_nil, List.nodup_nil⟩, fun b hb c hc z => ?_⟩
    rw [List.mem_singleton.mp hc] at z
    exact nar (by rw [← z]; exact hb)
  · rcases List.mem_cons.mp hb with hb | hb
    · rw [hb]
      exact h.fr D List.mem_cons_self
    · rcases List.mem_append.mp hb with hb | hb
      · exact h.fr b (List.mem_cons_of_mem _ hb)
      · rw [List.mem_singleton.mp hb]
        exact same_free h.sm ha
  · rcases List.mem_append.mp hb with hb | hb
    · rw [upd_ne (fun z => n1 (by rw [← z]; exact hb))]
      exact e _ _ (h.at_ b hb)
    · rw [List.mem_singleton.mp hb, upd_ne naD]
      exact ha'
theorem rep_row {m : Nat} : List.replicate (m + 1) V.non = mRow m fun _ => .non := by
  unfold mRow
  rw [List.map_const', List.length_range]
/-- two tables of nothing and an empty queue -/
theorem sst_new {G G1 G2 : Hp} {F S Q : Addr} {rf rg : List Addr} {n m : Nat} (h1 : NwR G G1 F rf (m + 1)) (l1 : rf.length = n + 1) (h2 : NwR G1 G2 S rg (m + 1)) (l2 : rg.length = n + 1) (hQ : G2 Q = none) :
    Sst G F S Q rf rg n m ⟨fun _ _ => none, fun _ _ => none, []⟩ (upd G2 Q (.lst [])) := by
  have sQ := same_new (o := .lst []) hQ
  have some1 : ∀ a ∈ F :: rf, ∃ o, G1 a = some o := fun a ha => by
    rcases List.mem_cons.mp ha with rfl | ha
    · exact ⟨_, h1.hD⟩
    · exact ⟨_, h1.at_ a ha⟩
  have ap12 : ∀ a ∈ F :: rf, ∀ b ∈ S :: rg, a ≠ b := fun a ha b hb z => by
    obtain ⟨o, h⟩ := some1 a ha
    rw [z, h2.fr b hb] at h
    exact nomatch h
  have some2 : ∀ a ∈ S :: rg, ∃ o, G2 a = some o := fun a ha => by
    rcases List.mem_cons.mp ha with rfl | ha
    · exact ⟨_, h2.hD⟩
    · exact ⟨_, h2.at_ a ha⟩
  have apQ2 : ∀ b ∈ S :: rg, b ≠ Q := fun b hb z => by
    obtain ⟨o, h⟩ := some2 b hb
    rw [z, hQ] at h
    exact nomatch h
  have apQ1 : ∀ b ∈ F :: rf, b ≠ Q := fun b hb z => by
    obtain ⟨o, h⟩ := some1 b hb
    have := h2.sm _ _ h
    rw [z, hQ] at this
    exact nomatch this
  obtain ⟨n1, d1⟩ := List.nodup_cons.mp h1.nd
  obtain ⟨n2, d2⟩ := List.nodup_cons.mp h2.nd
  refine ⟨fun b o hb => sQ _ _ (h2.sm _ _ (h1.sm b o hb)), fun a ha => ?_, ?_, ⟨?_, l1, fun i a hi => ?_⟩, ⟨fun _ _ => .non, ⟨?_, l2, fun i a hi => ?_⟩, fun _ _ => rfl⟩, ⟨[], upd_same, [], rfl, rfl⟩⟩
  · have : a ∈ F :: rf ∨ a ∈ S :: rg ∨ a = Q := by
      simp only [List.mem_cons, List.mem_append] at ha ⊢
      rcases ha with h | h | h | h | h
      · exact .inl (.inl h)
      · exact .inr (.inl (.inl h))
      · exact .inr (.inr h)
      · exact .inl (.inr h)
      · exact .inr (.inl (.inr h))
    rcases this with h | h | h
    · exact h1.fr a h
    · exact same_free h1.sm (h2.fr a h)
    · rw [h]
      exact same_free h1.sm (same_free h2.sm hQ)
  · refine List.nodup_cons.mpr ⟨fun z => ?_, List.nodup_cons.mpr ⟨fun z => ?_, List.nodup_cons.mpr ⟨fun z => ?_, List.nodup_append.mpr ⟨d1, d2, fun a ha b hb => ap12 a (List.mem_cons_of_mem _ ha) b (List.mem_cons_of_mem _ hb)⟩⟩⟩⟩
    · simp only [List.mem_cons, List.mem_append] at z
      rcases z with z | z | z | z
      · exact ap12 F List.mem_cons_self S List.mem_cons_self z
      · exact apQ1 F List.mem_cons_self z
      · exact n1 z
      · exact ap12 F List.mem_cons_self F (List.mem_cons_of_mem _ z) rfl
    · simp only [List.mem_cons, List.mem_append] at z
      rcases z with z | z | z
      · exact apQ2 S List.mem_cons_self z
      · exact ap12 S (List.mem_cons_of_mem _ z) S List.mem_cons_self rfl
      · exact n2 z
    · rcases List.mem_append.mp z with z | z
      · exact apQ1 Q (List.mem_cons_of_mem _ z) rfl
      · exact apQ2 Q (List.mem_cons_of_mem _ z) rfl
  · exact sQ _ _ (h2.sm _ _ h1.hD)
  · rw [sQ _ _ (h2.sm _ _ (h1.at_ a (List.mem_of_getElem? hi))), rep_row]
    rfl
  · exact sQ _ _ h2.hD
  · rw [sQ _ _ (h2.at_ a (List.mem_of_getElem? hi)), rep_row]
end KC

namespace KC
open PySem L2 Gd Fw KM
theorem ix_tupK {K : PySem.W.Frag} {X : Cx} (h : X.K = K) : IxR X (rIxT K) := by subst h; exact ix_tup
def Cap (D : List Str) (p : Fn Str) : Prop := ∀ x ∈ D, ∀ y ∈ D, ∀ w, p x y = some w → w ≤ 9
theorem prc_cap {D : List Str} {kvs : List (List Key × V)} {c : Co} (t : Tab D kvs) (hc : Pr c) : Cap D (prc kvs c) := by
  intro x hx y hy w
  unfold prc
  by_cases e : x = y
  · rw [if_pos e]
    intro h
    cases h
    decide
  · rw [if_neg e]
    cases h : valV kvs (kk x y) with
    | none => exact fun e => (hc w e).2
    | some v =>
      obtain ⟨_, _, _, _, _, _, a, rfl, pa⟩ := t.2 _ _ (valV_mem h)
      show vO (oV a) = _ → _
      rw [vO_oV]
      exact fun e => (pa w e).2
theorem wt_cap {D : List Str} {p : Fn Str} (hc : Cap D p) : ∀ (l : List Str) (w : Int), (∀ z ∈ l, z ∈ D) → wt p l = some w → w ≤ 9 * (l.length - 1 : Nat)
  | [], w, _, e => by
    have e : some (0 : Int) = some w := e
    cases e
    exact Int.le_refl _
  | [x], w, _, e => by
    have e : some (0 : Int) = some w := e
    cases e
    exact Int.le_refl _
  | x :: y :: r, w, h, e => by
    obtain ⟨u, v, e1, e2, rfl⟩ := csum_some (show csum (p x y) (wt p (y :: r)) = some w from e)
    have a1 := hc x (h x List.mem_cons_self) y (h y (List.mem_cons_of_mem _ List.mem_cons_self)) u e1
    have a2 := wt_cap hc (y :: r) v (fun z hz => h z (List.mem_cons_of_mem _ hz)) e2
    simp only [List.length_cons] at a2 ⊢
    omega
theorem wgt_pos {cs : List Nat} {p : Fn Str} (al : Alp cs) (pp : Prc (symL cs) p) (hc : Cap (symL cs) p) {x y : Str} {k : Int} (h : wgt cs p x y = some k) : 0 ≤ k ∧ k ≤ (54 : Nat) := by
  unfold wgt at h
  split at h
  · rename_i c
    obtain ⟨S, hS, J⟩ := jn_of al pp
    have nn : Nn (spn cs p x y) := J.g.nn x c.1 y c.2.1
    have W := J.wy x c.1 y c.2.1 k h
    have l1 := W.len
    have l2 := al.lens
    have l3 := wt_cap hc _ _ W.mem W.w
    refine ⟨?_, by omega⟩
    rw [h] at nn
    exact Le.some nn
  · exact nomatch h
theorem wgt_eps {cs : List Nat} {p : Fn Str} : wgt cs p eps eps = none := by
  unfold wgt
  rw [if_neg fun q => q.2.2 ⟨rfl, rfl⟩]
abbrev st0 (n m : Nat) : Dk.St Str := Dk.start (lt := ltE) n m
/-- the least costs and how they come about, from all places of two texts -/
def fin (cs : List Nat) (p : Fn Str) (s t : List Str) : Dk.St Str := Dk.itn ltE (wgt cs p) (Dk.ent eps s) (Dk.ent eps t) (Dk.mu s.length t.length 54 (st0 s.length t.length)) (st0 s.length t.length)
/-- small enough for the queue -/
def Small (s t : List Str) : Prop := (s.length + 1) * (t.length + 1) * (54 * (s.length + t.length) + 2) ≤ 33000000
def SrAt (H : Hp) (r : V) (n m : Nat) (D : Dk.St Str) : Prop := ∃ (p F S : Addr) (rf rg : List Addr) (R : Nat → Nat → V), r = .ref p ∧ H p = some (.tup [.ref F, .ref S]) ∧ Mx H F rf n m (fun i j => oV (D.f i j)) ∧ Mx H S rg n m R ∧ ∀ i j, StpAt H (R i j) (D.g i j)
def spSrch (C : Addr) : Sp := fun vs H Q _ => ∃ v one other cs p s t, vs = [v, one, other] ∧ PrAt C H v cs p ∧ Alp cs ∧ Prc (symL cs) p ∧ Cap (symL cs) p ∧ TabAt H one s ∧ TabAt H other t ∧ (∀ x ∈ s, x ∈ symL cs) ∧ (∀ x ∈ t, x ∈ symL cs) ∧ s.length ≤ 10000 ∧ t.length ≤ 10000 ∧ Small s t ∧
  ∀ r H', Same H H' → SrAt H' r s.length t.length (fin cs p s t) → Q r H'
section
variable {P : Program} {w : World} {K : PySem.W.Frag} {mg : Str → Option Value} {base : Heap}
abbrev ssearched : Stmt := top 39
theorem scsearched : FnScope ["prices", "one", "other", "costs", "one_entries", "other_entries", "found", "steps", "queue", "state", "goal", "cost", "source", "before", "target", "origin", "more", "_"] ["prices", "one", "other"] (defScope ssearched) := ⟨rfl, rfl, rfl, by decide +kernel, rfl, by decide +kernel, by decide +kernel⟩
theorem ok_srch {C f f1 f2 f3 f4 : Addr} {fd fd1 fd2 fd3 fd4 : FuncData} (F : Fun K "searched" "searched" ssearched f fd) (T : Txt mg base)
    (D_pair_costs : Df P w K mg base CX0 5 "pair_costs" f1 fd1 ["prices"] (spPC C)) (D_entries_of : Df P w K mg base CX0 1 "entries_of" f2 fd2 ["rows"] spEnt)
    (D_cost_sum : Df P w K mg base CX0 1 "cost_sum" f3 fd3 ["cost", "other"] spCsum) (D_is_cheaper : Df P w K mg base CX0 1 "is_cheaper" f4 fd4 ["cost", "other"] spCheap) : FnG P w K mg base CX0 6 f fd ["prices", "one", "other"] (spSrch C) := by
  refine okG F scsearched (fun vs H Q E h => ?_) (fun cdv A outer s0 H vs Q E hc hr h => ?_)
  · obtain ⟨v, one, other, cs, p, s, t, rfl, _⟩ := h
    rfl
  obtain ⟨v, one, other, cs, p, s, t, rfl, pr, al, pp, cap, t1, t2, m1, m2, ls, lt, sm, q⟩ := h
  refine ⟨_, (pss_cons (ps_set (i := 3) scsearched.nd rfl (Or.inl rfl) (pe_d D_pair_costs hc (hr.mono (by omega)) (by rfl) (fun _ => passN) (pa_cons (pv 0) pa_nil)))
 (pss_cons (ps_set (i := 4) scsearched.nd rfl (Or.inl rfl) (pe_d D_entries_of hc (hr.mono (by omega)) (by rfl) (fun _ => passN) (pa_cons (pe_ix ix_tup (pv 1) pe_int (fun _ _ => rfl)) pa_nil)))
 (pss_cons (ps_set (i := 5) scsearched.nd rfl (Or.inl rfl) (pe_d D_entries_of hc (hr.mono (by omega)) (by rfl) (fun _ => passN) (pa_cons (pe_ix ix_tup (pv 2) pe_int (fun _ _ => rfl)) pa_nil)))
 (pss_cons (ps_setLc (i := 6) (own := [("_", 17)]) (g := gName 17) rfl scsearched.nd rfl rfl (sw_true rfl rfl rfl (by decide +kernel)) (pi_list (pe_ix ix_tup (pv 1) pe_int (fun _ _ => rfl))) (blkOk_by (N := ["prices", "one", "other", "costs", "one_entries", "other_entries", "found", "steps", "queue", "state", "goal", "cost", "source", "before", "target", "origin", "more", "_"]) (sc := defScope ssearched) (by decide +kernel)) (fun _ _ _ _ _ => pg_name (i := 17) scsearched.nd rfl (Or.inl rfl)) (fun _ _ _ _ _ => pts_nil) (fun _ _ _ _ _ => (pe_lc (own := [("_", 17)]) (g := gName 17) rfl scsearched.nd (pi_listK (K := K) rfl (pe_ix (ix_tupK (K := K) rfl) (pv 2) pe_int (fun _ _ => rfl))) (blkOk_by (N := ["prices", "one", "other", "costs", "one_entries", "other_entries", "found", "steps", "queue", "state", "goal", "cost", "source", "before", "target", "origin", "more", "_"]) (sc := (relS _ (defScope ssearched))) (by decide +kernel)) (fun _ _ _ _ _ => pg_name (i := 17) scsearched.nd rfl (Or.inl rfl)) (fun _ _ _ _ _ => pts_nil) (fun _ _ _ _ _ => pe_non))))
 (pss_cons (ps_setLc (i := 7) (own := [("_", 17)]) (g := gName 17) rfl scsearched.nd rfl rfl (sw_true rfl rfl rfl (by decide +kernel)) (pi_list (pe_ix ix_tup (pv 1) pe_int (fun _ _ => rfl))) (blkOk_by (N := ["prices", "one", "other", "costs", "one_entries", "other_entries", "found", "steps", "queue", "state", "goal", "cost", "source", "before", "target", "origin", "more", "_"]) (sc := defScope ssearched) (by decide +kernel)) (fun _ _ _ _ _ => pg_name (i := 17) scsearched.nd rfl (Or.inl rfl)) (fun _ _ _ _ _ => pts_nil) (fun _ _ _ _ _ => (pe_lc (own := [("_", 17)]) (g := gName 17) rfl scsearched.nd (pi_listK (K := K) rfl (pe_ix (ix_tupK (K := K) rfl) (pv 2) pe_int (fun _ _ => rfl))) (blkOk_by (N := ["prices", "one", "other", "costs", "one_entries", "other_entries", "found", "steps", "queue", "state", "goal", "cost", "source", "before", "target", "origin", "more", "_"]) (sc := (relS _ (defScope ssearched))) (by decide +kernel)) (fun _ _ _ _ _ => pg_name (i := 17) scsearched.nd rfl (Or.inl rfl)) (fun _ _ _ _ _ => pts_nil) (fun _ _ _ _ _ => pe_non))))
 (pss_cons (ps_set (i := 8) scsearched.nd rfl (Or.inl rfl) (pe_lst pa_nil))
 (pss_cons (ps_for (passes_of rfl) rfl (pi_list (pe_ix ix_tup (pv 1) pe_int (fun _ _ => rfl))) (pg_name (i := 9) scsearched.nd rfl (Or.inl rfl))
  (pss_one (ps_for (passes_of rfl) rfl (pi_list (pe_ix ix_tup (pv 2) pe_int (fun _ _ => rfl))) (pg_name (i := 10) scsearched.nd rfl (Or.inl rfl))
  (pss_cons (ps_asg pe_int (pg_sub (pe_ix ix_list (pv 6) (pv 9) (fun _ _ => rfl)) (pv 10) set_list))
 (pss_one (ps_expr (pe_callBfun (cr_push (hu_of hr)) (by rfl) T.b_heappush (pa_cons (pv 8) (pa_cons (pe_tup (pa_cons pe_int (pa_cons (pv 9) (pa_cons (pv 10) pa_nil)))) pa_nil)))))))))
 (pss_cons (ps_while (passes_of rfl) (pt_truth (pv 8) (by intro _; rfl))
  (pss_cons (ps_asg (pe_callBfun (cr_pop (hu_of hr)) (by rfl) T.b_heappop (pa_cons (pv 8) pa_nil)) (pg_tup (by rfl) (pgs_cons (pg_name (i := 11) scsearched.nd rfl (Or.inl rfl)) (pgs_cons (pg_name (i := 9) scsearched.nd rfl (Or.inl rfl)) (pgs_cons (pg_name (i := 10) scsearched.nd rfl (Or.inl rfl)) pgs_nil)))))
 (pss_one (ps_if (pt_cmpR op_eq (pv 11) (pe_ix ix_list (pe_ix ix_list (pv 6) (pv 9) (fun _ _ => rfl)) (pv 10) (fun _ _ => rfl)) (nomark _))
  (pss_one (ps_for (passes_of rfl) rfl (pi_list (pe_ix ix_list (pv 4) (pv 9) (fun _ _ => rfl))) (pg_tup (by rfl) (pgs_cons (pg_name (i := 12) scsearched.nd rfl (Or.inl rfl)) (pgs_cons (pg_name (i := 13) scsearched.nd rfl (Or.inl rfl)) pgs_nil)))
  (pss_one (ps_for (passes_of rfl) rfl (pi_list (pe_ix ix_list (pv 5) (pv 10) (fun _ _ => rfl))) (pg_tup (by rfl) (pgs_cons (pg_name (i := 14) scsearched.nd rfl (Or.inl rfl)) (pgs_cons (pg_name (i := 15) scsearched.nd rfl (Or.inl rfl)) pgs_nil)))
  (pss_cons (ps_set (i := 16) scsearched.nd rfl (Or.inl rfl) (pe_d D_cost_sum hc (hr.mono (by omega)) (by rfl) (fun _ => passN) (pa_cons (pv 11) (pa_cons (pe_dget1 (hu_of hr) (pv 3) (pe_tup (pa_cons (pv 12) (pa_cons (pv 14) pa_nil))) ⟨by rfl, by rfl, by rfl, by rfl⟩) pa_nil))))
 (pss_one (ps_if (pt_val (pe_d D_is_cheaper hc (hr.mono (by omega)) (by rfl) (fun _ => passN) (pa_cons (pv 16) (pa_cons (pe_ix ix_list (pe_ix ix_list (pv 6) (pv 13) (fun _ _ => rfl)) (pv 15) (fun _ _ => rfl)) pa_nil))))
  (pss_cons (ps_asg (pv 16) (pg_sub (pe_ix ix_list (pv 6) (pv 13) (fun _ _ => rfl)) (pv 15) set_list))
 (pss_cons (ps_asg (pe_tup (pa_cons (pv 12) (pa_cons (pv 14) (pa_cons (pv 9) (pa_cons (pv 10) pa_nil))))) (pg_sub (pe_ix ix_list (pv 7) (pv 13) (fun _ _ => rfl)) (pv 15) set_list))
 (pss_one (ps_expr (pe_callBfun (cr_push (hu_of hr)) (by rfl) T.b_heappush (pa_cons (pv 8) (pa_cons (pe_tup (pa_cons (pv 16) (pa_cons (pv 13) (pa_cons (pv 15) pa_nil)))) pa_nil))))))) pss_nil))))))) pss_nil))))
 (pss_one (ps_ret (pe_tup (pa_cons (pv 6) (pa_cons (pv 7) pa_nil))))))))))))), ?_⟩
  have sz := sizeLine_eq
  refine ⟨_, rfl, v, cs, p, rfl, pr, al, fun e H1 s1 he hw => ?_⟩
  have t1 := t1.same s1
  have t2 := t2.same s1
  obtain ⟨p1, R1, Z1, rs1, rfl, a1, a2, a3, a4⟩ := id t1
  refine ⟨_, rfl, p1, _, _, _, rfl, rfl, SqT.of a1, atI_nat (j := 0) rfl, R1, rs1, s, rfl, a3, a4, ls, fun e1 H2 s2 he1 hent1 => ?_⟩
  have t1 := t1.same s2
  have t2 := t2.same s2
  obtain ⟨p2, R2, Z2, rs2, rfl, b1, b2, b3, b4⟩ := id t2
  refine ⟨_, rfl, p2, _, _, _, rfl, rfl, SqT.of b1, atI_nat (j := 0) rfl, R2, rs2, t, rfl, b3, b4, lt, fun e2 H3 s3 he2 hent2 => ?_⟩
  have hw := (hw.same s2).same s3
  have hent1 := hent1.same s3
  have sG : Same H H3 := s1.trans (s2.trans s3)
  have a1 := s3 _ _ (s2 _ _ a1)
  have a2 := s3 _ _ (s2 _ _ a2)
  have a3 := s3 _ _ (s2 _ _ a3)
  have b1 := s3 _ _ b1
  have b2 := s3 _ _ b2
  have b3 := s3 _ _ b3
  have l1 := a4.1
  have l2 := b4.1
  have c1 := a1
  have c2 := a2
  have c3 := b1
  have c4 := b2
  have c5 := hw
  have c6 := hent1
  have c7 := hent2
  clear t1 t2 pr he he1 he2 a4 b4
  refine ⟨_, rfl, p1, _, _, _, rfl, rfl, SqT.of a1, atI_nat (j := 0) rfl, R1, rfl, ⟨_, SqL.of a3⟩, fun F hF => ?_⟩
  refine walk_W (L2.walk_list (xs := rs1.map V.ref)) (fun i H' => ∃ rf, rf.length = i ∧ NwR H3 H' F rf (t.length + 1)) ⟨[], rfl, same_new hF, upd_same, List.nodup_cons.mpr ⟨List.not_mem_nil, List.nodup_nil⟩, fun a ha => by rw [List.mem_singleton.mp ha]; exact hF, fun a ha => nomatch ha⟩ (fun i H' _ pv => SqL.of (pv.choose_spec.2.sm _ _ a3)) ?_ ?_
  · rintro i v H4 _ lti ⟨rf, el, nw⟩ ⟨rfl, hx⟩
    rename_i H4
    refine ⟨rfl, yes_go ⟨_, rfl, p2, _, _, _, rfl, rfl, SqT.of (nw.sm _ _ b1), atI_nat (j := 0) rfl, R2, rfl, ⟨_, SqL.of (nw.sm _ _ b3)⟩, fun a ha => ?_⟩⟩
    refine walk_W (L2.walk_list (xs := rs2.map V.ref)) (fun j H' => Same H4 H' ∧ H' a = some (.lst (List.replicate j .non))) ⟨same_new ha, upd_same⟩ (fun i H' _ pv => SqL.of (pv.1 _ _ (nw.sm _ _ b3))) ?_ ?_
    · rintro j v H5 _ ltj ⟨s5, q5⟩ ⟨rfl, hy⟩
      rename_i H5
      rw [List.length_map, l2] at ltj
      refine ⟨rfl, yes_go ⟨_, q5, by rw [List.length_replicate]; omega, fun b o hb => ?_, ?_⟩⟩
      · rw [upd_ne (ne_of_none hb ha)]
        exact s5 _ _ hb
      · rw [upd_same, List.replicate_succ']
    · rintro H5 ⟨s5, q5⟩
      rw [List.length_map, l2] at q5
      have hl : rf.length < sizeLine := by
        rw [List.length_map, l1] at lti
        omega
      exact ⟨_, s5 _ _ nw.hD, by rw [List.length_map]; exact hl, rf ++ [a], by rw [List.length_append, el]; rfl, nw.add s5 ha q5⟩
  rintro H4 ⟨rf, el, nf⟩
  rw [List.length_map, l1] at el
  have a1 := nf.sm _ _ a1
  have a2 := nf.sm _ _ a2
  have a3 := nf.sm _ _ a3
  have b1 := nf.sm _ _ b1
  have b2 := nf.sm _ _ b2
  have b3 := nf.sm _ _ b3
  refine ⟨_, rfl, p1, _, _, _, rfl, rfl, SqT.of a1, atI_nat (j := 0) rfl, R1, rfl, ⟨_, SqL.of a3⟩, fun S hS => ?_⟩
  refine walk_W (L2.walk_list (xs := rs1.map V.ref)) (fun i H' => ∃ rf, rf.length = i ∧ NwR H4 H' S rf (t.length + 1)) ⟨[], rfl, same_new hS, upd_same, List.nodup_cons.mpr ⟨List.not_mem_nil, List.nodup_nil⟩, fun a ha => by rw [List.mem_singleton.mp ha]; exact hS, fun a ha => nomatch ha⟩ (fun i H' _ pv => SqL.of (pv.choose_spec.2.sm _ _ a3)) ?_ ?_
  · rintro i v H5 _ lti ⟨rf, el, nw⟩ ⟨rfl, hx⟩
    rename_i H5
    refine ⟨rfl, yes_go ⟨_, rfl, p2, _, _, _, rfl, rfl, SqT.of (nw.sm _ _ b1), atI_nat (j := 0) rfl, R2, rfl, ⟨_, SqL.of (nw.sm _ _ b3)⟩, fun a ha => ?_⟩⟩
    refine walk_W (L2.walk_list (xs := rs2.map V.ref)) (fun j H' => Same H5 H' ∧ H' a = some (.lst (List.replicate j .non))) ⟨same_new ha, upd_same⟩ (fun i H' _ pv => SqL.of (pv.1 _ _ (nw.sm _ _ b3))) ?_ ?_
    · rintro j v H6 _ ltj ⟨s5, q5⟩ ⟨rfl, hy⟩
      rename_i H6
      rw [List.length_map, l2] at ltj
      refine ⟨rfl, yes_go ⟨_, q5, by rw [List.length_replicate]; omega, fun b o hb => ?_, ?_⟩⟩
      · rw [upd_ne (ne_of_none hb ha)]
        exact s5 _ _ hb
      · rw [upd_same, List.replicate_succ']
    · rintro H6 ⟨s5, q5⟩
      rw [List.length_map, l2] at q5
      have hl : rf.length < sizeLine := by
        rw [List.length_map, l1] at lti
        omega
      exact ⟨_, s5 _ _ nw.hD, by rw [List.length_map]; exact hl, rf ++ [a], by rw [List.length_append, el]; rfl, nw.add s5 ha q5⟩
  rintro H5 ⟨rg, eg, ng⟩
  rw [List.length_map, l1] at eg
  refine ⟨by show 0 ≤ sizeLine; decide, fun U hU => ?_⟩
  have st := sst_new nf el ng eg hU
  have sh : ∀ {H'}, Same H3 H' → H' p1 = some (.tup [.ref R1, .ref Z1]) ∧ H' Z1 = some (.lst [.int s.length]) ∧ H' p2 = some (.tup [.ref R2, .ref Z2]) ∧ H' Z2 = some (.lst [.int t.length]) ∧ WAt H' e cs p ∧ EntAt H' e1 s ∧ EntAt H' e2 t := fun {H'} h => ⟨h _ _ c1, h _ _ c2, h _ _ c3, h _ _ c4, c5.same h, c6.same h, c7.same h⟩
  clear a1 a2 a3 b1 b2 b3 hw hent1 hent2 nf ng hU hS hF
  generalize upd H5 U (.lst []) = H6 at st ⊢
  obtain ⟨g1, g2, g3, g4, g5, g6, g7⟩ := sh st.sm
  refine ⟨_, rfl, p1, _, _, _, rfl, rfl, SqT.of g1, atI_nat (j := 1) rfl, Z1, rfl, ⟨_, SqL.of g2⟩, ?_⟩
  refine L2.for_it (L2.walk_list (xs := [V.int (s.length : Nat)])) (fun i σ H' => (∃ o9 o10 o11 o12 o13 o14 o15 o16 : Option V, σ = [some v, some (.ref p1), some (.ref p2), some (.ref e), some (.ref e1), some (.ref e2), some (.ref F), some (.ref S), some (.ref U), o9, o10, o11, o12, o13, o14, o15, o16, none]) ∧
    Sst H3 F S U rf rg s.length t.length (if i = 0 then ⟨fun _ _ => none, fun _ _ => none, []⟩ else st0 s.length t.length) H') ⟨⟨_, _, _, _, _, _, _, _, rfl⟩, by rw [if_pos rfl]; exact st⟩ (fun i σ H' _ pv => SqL.of (sh pv.2.sm).2.1) ?_ ?_
  · rintro i x σ H7 _ lti ⟨⟨o9, o10, o11, o12, o13, o14, o15, o16, rfl⟩, st⟩ ⟨rfl, hx⟩
    rename_i H7
    obtain ⟨rfl, rfl⟩ : i = 0 ∧ x = .int (s.length : Nat) := by
      match i, hx with
      | 0, hx => exact ⟨rfl, (Option.some.inj hx).symm⟩
    rw [if_pos rfl] at st
    obtain ⟨g1, g2, g3, g4, g5, g6, g7⟩ := sh st.sm
    refine ⟨_, rfl, p2, _, _, _, rfl, rfl, SqT.of g3, atI_nat (j := 1) rfl, Z2, rfl, ⟨_, SqL.of g4⟩, ?_⟩
    refine L2.for_it (L2.walk_list (xs := [V.int (t.length : Nat)])) (fun i σ H' => (∃ o10 o11 o12 o13 o14 o15 o16 : Option V, σ = [some v, some (.ref p1), some (.ref p2), some (.ref e), some (.ref e1), some (.ref e2), some (.ref F), some (.ref S), some (.ref U), some (.int (s.length : Nat)), o10, o11, o12, o13, o14, o15, o16, none]) ∧
      Sst H3 F S U rf rg s.length t.length (if i = 0 then ⟨fun _ _ => none, fun _ _ => none, []⟩ else st0 s.length t.length) H') ⟨⟨_, _, _, _, _, _, _, rfl⟩, by rw [if_pos rfl]; exact st⟩ (fun i σ H' _ pv => SqL.of (sh pv.2.sm).2.2.2.1) ?_ ?_
    · clear o10 o11 o12 o13 o14 o15 o16
      rintro i x σ H8 _ ltj ⟨⟨o10, o11, o12, o13, o14, o15, o16, rfl⟩, st⟩ ⟨rfl, hx⟩
      rename_i H8
      obtain ⟨rfl, rfl⟩ : i = 0 ∧ x = .int (t.length : Nat) := by
        match i, hx with
        | 0, hx => exact ⟨rfl, (Option.some.inj hx).symm⟩
      rw [if_pos rfl] at st
      obtain ⟨a, ha, hl⟩ := st.mf.row (Nat.le_refl _)
      refine ⟨_, rfl, _, rfl, F, _, _, _, rfl, rfl, SqL.of st.mf.hF, atI_nat (by rw [List.getElem?_map, ha]; rfl), _, rfl, a, _, _, t.length, rfl, rfl, hl, ixN_nat (by rw [mRow_len]; omega), ?_⟩
      have st2 := st.putf (v := some 0) (j := t.length) ha
      have ez : V.int 0 = oV (some 0) := rfl
      rw [ez]
      generalize upd H8 a _ = H9 at st2 ⊢
      refine ⟨_, rfl, _, rfl, _, rfl, by show 3 ≤ sizeLine; decide, fun b hb => ?_⟩
      have sb := same_new (o := .tup [V.int 0, V.int (s.length : Nat), V.int (t.length : Nat)]) hb
      have st3 := st2.same sb
      obtain ⟨xs, q1, q2⟩ := st3.hq
      have hx0 : xs = [] := List.length_eq_zero_iff.mp q2.len
      have hv : OkE (upd H9 b (.tup [V.int 0, V.int (s.length : Nat), V.int (t.length : Nat)])) (.ref b, ((0 : Int), s.length, t.length)) := ⟨b, rfl, upd_same⟩
      have q3 := q2.push hv
      refine ⟨U, .ref b, xs, rfl, q1, fun x hx => ?_, by rw [hx0]; decide, ⟨_, _, _, _, _, _, _, rfl⟩, ?_⟩
      · rcases List.mem_append.mp hx with h | h
        · exact q2.tups x h
        · rw [List.mem_singleton.mp h]
          exact hv.tup
      · have := st3.putq q3
        rw [if_neg (by decide)]
        exact this
    · rintro σ H8 ⟨⟨o10, o11, o12, o13, o14, o15, o16, rfl⟩, st⟩
      exact ⟨⟨_, _, _, _, _, _, _, _, rfl⟩, st⟩
  clear st g1 g2 g3 g4 g5 g6 g7 H6
  rintro σ H7 ⟨⟨o9, o10, o11, o12, o13, o14, o15, o16, rfl⟩, st⟩
  have st : Sst H3 F S U rf rg s.length t.length (st0 s.length t.length) H7 := st
  have hyp : Dk.Hyp (wgt cs p) (Dk.ent eps s) (Dk.ent eps t) s.length t.length 54 := Dk.hyp_ent wgt_eps (fun h => wgt_pos al pp cap h)
  have i0 : Dk.Inv (wgt cs p) (Dk.ent eps s) (Dk.ent eps t) s.length t.length 54 (st0 s.length t.length) := Dk.start_inv
  have qb : ∀ k, Dk.cells s.length t.length 54 (Dk.itn ltE (wgt cs p) (Dk.ent eps s) (Dk.ent eps t) k (st0 s.length t.length)).f + (Dk.itn ltE (wgt cs p) (Dk.ent eps s) (Dk.ent eps t) k (st0 s.length t.length)).q.length ≤ 16500000 := fun k => by
    refine Nat.le_trans (Dk.itn_ql hyp k i0) ?_
    have c1 := Dk.cells_none s.length t.length 54
    have c2 : Dk.cells s.length t.length 54 (st0 s.length t.length).f + 1 ≤ Dk.cells s.length t.length 54 fun _ _ => none := Dk.cells_dec (v := some 0) (Nat.le_refl _) (Nat.le_refl _) (by show 0 + 1 ≤ _; show 1 ≤ 54 * _ + 1; omega)
    have c3 : (st0 s.length t.length).q.length = 1 := by
      show (Dk.push ltE [] (0, s.length, t.length)).length = 1
      rw [Dk.push_nil]
      rfl
    unfold Small at sm
    omega
  refine ⟨fun μ σ H' => (∃ o9 o10 o11 o12 o13 o14 o15 o16 : Option V, σ = [some v, some (.ref p1), some (.ref p2), some (.ref e), some (.ref e1), some (.ref e2), some (.ref F), some (.ref S), some (.ref U), o9, o10, o11, o12, o13, o14, o15, o16, none]) ∧
    ∃ k, μ = Dk.mu s.length t.length 54 (Dk.itn ltE (wgt cs p) (Dk.ent eps s) (Dk.ent eps t) k (st0 s.length t.length)) ∧ Sst H3 F S U rf rg s.length t.length (Dk.itn ltE (wgt cs p) (Dk.ent eps s) (Dk.ent eps t) k (st0 s.length t.length)) H', ⟨_, ⟨_, _, _, _, _, _, _, _, rfl⟩, 0, rfl, st⟩, ?_⟩
  rintro μ σ H7 ⟨⟨o9, o10, o11, o12, o13, o14, o15, o16, rfl⟩, k, rfl, st⟩
  have iv := Dk.itn_inv (lt := ltE) hyp k i0
  have qk := qb k
  have nxt := Dk.itn_succ ltE (wgt cs p) (Dk.ent eps s) (Dk.ent eps t) k (st0 s.length t.length)
  have stop : (Dk.itn ltE (wgt cs p) (Dk.ent eps s) (Dk.ent eps t) k (st0 s.length t.length)).q = [] → Dk.itn ltE (wgt cs p) (Dk.ent eps s) (Dk.ent eps t) k (st0 s.length t.length) = fin cs p s t := fun h => Dk.itn_end ltE (wgt cs p) (Dk.ent eps s) (Dk.ent eps t) h (Dk.itn_done hyp _ i0 (Nat.le_refl _))
  generalize Dk.itn ltE (wgt cs p) (Dk.ent eps s) (Dk.ent eps t) k (st0 s.length t.length) = D at st iv qk nxt stop
  obtain ⟨xs, q1, q2⟩ := st.hq
  have inv' := Dk.step_inv (lt := ltE) hyp iv
  cases hq : D.q with
  | nil =>
    rw [hq] at q2
    have hx : xs = [] := List.length_eq_zero_iff.mp q2.len
    subst hx
    refine ⟨_, rfl, false, .inl ⟨[], SqL.of q1, rfl⟩, iteF ⟨_, rfl, _, rfl, by show 2 ≤ sizeLine; decide, fun r hr' => ?_⟩⟩
    have sr := same_new (o := .tup [V.ref F, V.ref S]) hr'
    have st := st.same sr
    rw [stop hq] at st
    obtain ⟨R, m1', m2'⟩ := st.ms
    exact q _ _ (sG.trans st.sm) ⟨r, F, S, rf, rg, R, rfl, upd_same, st.mf, m1', m2'⟩
  | cons e0 r =>
    obtain ⟨c, s', t'⟩ := e0
    rw [hq] at q2
    obtain ⟨a, hx, hta⟩ := q2.head
    have hne : xs ≠ [] := fun z => by rw [z] at hx; exact nomatch hx
    have ee : (!xs.isEmpty) = true := by
      cases xs with
      | nil => exact (hne rfl).elim
      | cons _ _ => rfl
    refine ⟨_, rfl, true, .inl ⟨xs, SqL.of q1, ee.symm⟩, iteT ?_⟩
    have hps : D.q ≠ [] := fun z => by rw [hq] at z; exact nomatch z
    refine ⟨fun σ H' => (∃ o9 o10 o11 o12 o13 o14 o15 o16 : Option V, σ = [some v, some (.ref p1), some (.ref p2), some (.ref e), some (.ref e1), some (.ref e2), some (.ref F), some (.ref S), some (.ref U), o9, o10, o11, o12, o13, o14, o15, o16, none]) ∧
      Sst H3 F S U rf rg s.length t.length (Dk.step ltE (wgt cs p) (Dk.ent eps s) (Dk.ent eps t) D) H', ?_, ?_⟩
    · rintro σ' H' ⟨h1, h2⟩
      refine ⟨_, ?_, h1, k + 1, rfl, ?_⟩
      · rw [nxt]
        exact inv'.2.1 hps
      · rw [nxt]
        exact h2
    have es : Dk.step ltE (wgt cs p) (Dk.ent eps s) (Dk.ent eps t) D = Dk.pop1 ltE (wgt cs p) (Dk.ent eps s) (Dk.ent eps t) (c, s', t') D := by
      unfold Dk.step
      rw [hq]
    rw [es]
    obtain ⟨le1, le2⟩ := iv.qr (c, s', t') (by rw [hq]; exact List.mem_cons_self)
    have le1 : s' ≤ s.length := le1
    have le2 : t' ≤ t.length := le2
    refine ⟨_, rfl, U, .ref a, xs, rfl, q1, q2.tups, hx, ?_⟩
    have st1 := st.putq q2.pop
    have hta1 := upd_tup (o := .lst (Hq.popped (ltT H7) xs)) q1 _ _ hta
    rw [← hq] at st1
    have q7 : Dk.cells s.length t.length 54 D.f + (Hq.popped ltE D.q).length ≤ 16500000 := by
      have := (Hq.popped_perm ltE (l := D.q) (x := (c, s', t')) (by rw [hq]; rfl)).length_eq
      rw [List.length_cons] at this
      omega
    generalize upd H7 U (.lst (Hq.popped (ltT H7) xs)) = H8 at st1 hta1 ⊢
    refine ⟨a, _, rfl, SqT.of hta1, rfl, _, _, rfl, _, _, rfl, _, _, rfl, rfl, ?_⟩
    obtain ⟨b, hb, hl⟩ := st1.mf.row le1
    refine ⟨_, rfl, _, rfl, _, rfl, F, _, _, _, rfl, rfl, SqL.of st1.mf.hF, atI_nat (by rw [List.getElem?_map, hb]; rfl), _, rfl, b, _, _, _, rfl, rfl, SqL.of hl, atI_nat (mRow_at le2), ?_⟩
    refine ⟨by show scal (.int c) (oV (D.f s' t')) = true; cases D.f s' t' <;> rfl, _, rfl, ?_⟩
    have ed : decide (V.int c = oV (D.f s' t')) = decide (D.f s' t' = some c) := decide_eq_decide.mpr ⟨fun z => by
      cases h : D.f s' t' with
      | none => rw [h] at z; exact nomatch z
      | some u => rw [h] at z; injection z with z; rw [z], fun z => by rw [z]; rfl⟩
    show if decide (V.int c = oV (D.f s' t')) = true then _ else _
    rw [ed]
    unfold Dk.pop1
    show if decide (D.f s' t' = some c) = true then _ else _
    by_cases hf : D.f s' t' = some c
    · rw [decide_eq_true hf, if_pos hf]
      refine iteT ?_
      obtain ⟨_, _, _, _, ⟨kvs, hkv, wv⟩, ⟨es1, he1, ls1, at1⟩, ⟨es2, he2, ls2, at2⟩⟩ := sh (Same.refl H3)
      obtain ⟨ea, hea⟩ : ∃ ea, es1[s']? = some ea := ⟨es1[s']'(by omega), List.getElem?_eq_getElem (by omega)⟩
      obtain ⟨eb, heb⟩ : ∃ eb, es2[t']? = some eb := ⟨es2[t']'(by omega), List.getElem?_eq_getElem (by omega)⟩
      obtain ⟨vs1, hv1, ev1⟩ := at1 s' ea hea
      obtain ⟨vs2, hv2, ev2⟩ := at2 t' eb heb
      have md := Dk.pop_mid (lt := ltE) iv hq hf
      generalize hD1 : (⟨D.f, D.g, Hq.popped ltE D.q⟩ : Dk.St Str) = D1 at st1 md ⊢
      refine ⟨_, rfl, _, rfl, e1, _, _, _, rfl, rfl, SqL.of (st1.sm _ _ he1), atI_nat (by rw [List.getElem?_map, hea]; rfl), ea, rfl, ⟨_, SqL.of (st1.sm _ _ hv1)⟩, ?_⟩
      refine L2.for_it (L2.walk_list (xs := vs1)) (fun i σ H' => (∃ o12 o13 o14 o15 o16 : Option V, σ = [some v, some (.ref p1), some (.ref p2), some (.ref e), some (.ref e1), some (.ref e2), some (.ref F), some (.ref S), some (.ref U), some (.int (s' : Nat)), some (.int (t' : Nat)), some (.int c), o12, o13, o14, o15, o16, none]) ∧
        Sst H3 F S U rf rg s.length t.length (Dk.relaxA ltE (wgt cs p) c s' t' ((Dk.ent eps s s').take i) (Dk.ent eps t t') D1) H') ⟨⟨_, _, _, _, _, rfl⟩, st1⟩ (fun i σ H' _ pv => SqL.of (pv.2.sm _ _ hv1)) ?_ ?_
      · rintro i x0 σ H9 _ lti ⟨⟨o12, o13, o14, o15, o16, rfl⟩, st2⟩ ⟨rfl, hx0⟩
        rename_i H9
        obtain ⟨ta, x, kx, rfl, hta2, hlx⟩ := ev1.at hx0
        have mx := List.mem_of_getElem? hlx
        have M1 := (Dk.relaxA_mid (lt := ltE) hyp le1 le2 ((Dk.ent eps s s').take i) md fun z hz => List.mem_of_mem_take hz).1
        rw [Dk.relaxA_take hlx]
        generalize Dk.relaxA ltE (wgt cs p) c s' t' ((Dk.ent eps s s').take i) (Dk.ent eps t t') D1 = D2 at st2 M1 ⊢
        refine ⟨ta, _, rfl, SqT.of (st2.sm _ _ hta2), rfl, _, _, rfl, _, _, rfl, rfl, ?_⟩
        refine ⟨_, rfl, _, rfl, e2, _, _, _, rfl, rfl, SqL.of (st2.sm _ _ he2), atI_nat (by rw [List.getElem?_map, heb]; rfl), eb, rfl, ⟨_, SqL.of (st2.sm _ _ hv2)⟩, ?_⟩
        refine L2.for_it (L2.walk_list (xs := vs2)) (fun j σ H' => (∃ o14 o15 o16 : Option V, σ = [some v, some (.ref p1), some (.ref p2), some (.ref e), some (.ref e1), some (.ref e2), some (.ref F), some (.ref S), some (.ref U), some (.int (s' : Nat)), some (.int (t' : Nat)), some (.int c), some (.str x), some (.int (kx : Nat)), o14, o15, o16, none]) ∧
          Sst H3 F S U rf rg s.length t.length (Dk.relaxR ltE (wgt cs p) c s' t' (x, kx) ((Dk.ent eps t t').take j) D2) H') ⟨⟨_, _, _, rfl⟩, st2⟩ (fun j σ H' _ pv => SqL.of (pv.2.sm _ _ hv2)) ?_ ?_
        · clear o14 o15 o16 st2 hx0 lti
          rintro j y0 σ H9 _ ltj ⟨⟨o14, o15, o16, rfl⟩, st2⟩ ⟨rfl, hy0⟩
          rename_i H9
          obtain ⟨tb, y, ky, rfl, htb2, hly⟩ := ev2.at hy0
          have my := List.mem_of_getElem? hly
          have M2 := (Dk.relaxR_mid (lt := ltE) hyp le1 le2 mx ((Dk.ent eps t t').take j) M1 fun z hz => List.mem_of_mem_take hz).1
          rw [Dk.relaxR_take hly]
          generalize Dk.relaxR ltE (wgt cs p) c s' t' (x, kx) ((Dk.ent eps t t').take j) D2 = D3 at st2 M2 ⊢
          refine ⟨tb, _, rfl, SqT.of (st2.sm _ _ htb2), rfl, _, _, rfl, _, _, rfl, rfl, ?_⟩
          have hkx : kx ≤ s' := Dk.ent_le mx
          have hky : ky ≤ t' := Dk.ent_le my
          have sx : x ∈ symL cs := by
            rcases Dk.ent_mem mx with ⟨rfl, _⟩ | ⟨_, h⟩
            · exact List.mem_cons_self
            · exact m1 x (List.mem_of_getElem? h)
          have sy : y ∈ symL cs := by
            rcases Dk.ent_mem my with ⟨rfl, _⟩ | ⟨_, h⟩
            · exact List.mem_cons_self
            · exact m2 y (List.mem_of_getElem? h)
          refine ⟨_, rfl, _, rfl, e, rfl, .inr ⟨kvs, .inl (st2.sm _ _ hkv)⟩, _, rfl, _, rfl, by show 2 ≤ sizeLine; decide, fun tt htt => ?_⟩
          have s9 := same_new (o := .tup [V.str x, V.str y]) htt
          have st3 := st2.same s9
          have dg := DGet.t (k := kk x y) (st3.sm _ _ hkv) (upd_same (H := H9) (a := tt) (o := .tup [V.str x, V.str y]))
          generalize upd H9 tt (.tup [V.str x, V.str y]) = H10 at st3 dg ⊢
          refine ⟨_, dg, some c, wgt cs p x y, by rw [wv x sx y sy]; rfl, ?_⟩
          obtain ⟨b3, hb3, hl3⟩ := st3.mf.row (i := kx) (by omega)
          refine ⟨_, rfl, _, rfl, _, rfl, F, _, _, _, rfl, rfl, SqL.of st3.mf.hF, atI_nat (by rw [List.getElem?_map, hb3]; rfl), _, rfl, b3, _, _, _, rfl, rfl, SqL.of hl3, atI_nat (mRow_at (by omega)), csum (some c) (wgt cs p x y), D3.f kx ky, rfl, _, rfl, ?_⟩
          cases ch : cheap (csum (some c) (wgt cs p x y)) (D3.f kx ky) with
          | false =>
            rw [Dk.relax_no (x := (x, kx)) (y := (y, ky)) ch]
            exact iteF ⟨⟨_, _, _, rfl⟩, st3⟩
          | true =>
            obtain ⟨v0, ev⟩ : ∃ v0, csum (some c) (wgt cs p x y) = some v0 := by
              cases e : csum (some c) (wgt cs p x y) with
              | none => rw [e] at ch; exact nomatch ch
              | some v0 => exact ⟨v0, rfl⟩
            rw [Dk.relax_yes (x := (x, kx)) (y := (y, ky)) ev ch, ev]
            have lkx : kx ≤ s.length := Nat.le_trans hkx le1
            have lky : ky ≤ t.length := Nat.le_trans hky le2
            refine iteT ⟨_, rfl, _, rfl, _, rfl, F, _, _, _, rfl, rfl, SqL.of st3.mf.hF, atI_nat (by rw [List.getElem?_map, hb3]; rfl), _, rfl, b3, _, _, ky, rfl, rfl, hl3, ixN_nat (by rw [mRow_len]; omega), ?_⟩
            have st4 := st3.putf (v := some v0) (j := ky) hb3
            generalize upd H10 b3 _ = H11 at st4 ⊢
            refine ⟨_, rfl, _, rfl, _, rfl, _, rfl, by show 4 ≤ sizeLine; decide, fun t4 ht4 => ?_⟩
            have st5 := st4.same (same_new (o := .tup [V.str x, V.str y, V.int (s' : Nat), V.int (t' : Nat)]) ht4)
            have so : StpAt (upd H11 t4 (.tup [V.str x, V.str y, V.int (s' : Nat), V.int (t' : Nat)])) (.ref t4) (some (x, y, s', t')) := ⟨t4, rfl, upd_same⟩
            generalize upd H11 t4 (.tup [V.str x, V.str y, V.int (s' : Nat), V.int (t' : Nat)]) = H12 at st5 so ⊢
            obtain ⟨R, n1, n2⟩ := st5.ms
            obtain ⟨b5, hb5, hl5⟩ := n1.row lkx
            refine ⟨_, rfl, _, rfl, S, _, _, _, rfl, rfl, SqL.of n1.hF, atI_nat (by rw [List.getElem?_map, hb5]; rfl), _, rfl, b5, _, _, ky, rfl, rfl, hl5, ixN_nat (by rw [mRow_len]; omega), ?_⟩
            have st6 := st5.putg (j := ky) hb5 hl5 so
            generalize upd H12 b5 _ = H13 at st6 ⊢
            refine ⟨_, rfl, _, rfl, _, rfl, _, rfl, by show 3 ≤ sizeLine; decide, fun b6 hb6 => ?_⟩
            have st7 := st6.same (same_new (o := .tup [V.int v0, V.int (kx : Nat), V.int (ky : Nat)]) hb6)
            have hv : OkE (upd H13 b6 (.tup [V.int v0, V.int (kx : Nat), V.int (ky : Nat)])) (.ref b6, ((v0 : Int), kx, ky)) := ⟨b6, rfl, upd_same⟩
            obtain ⟨zs, z1, z2⟩ := st7.hq
            have z3 := z2.push hv
            refine ⟨U, .ref b6, zs, rfl, z1, fun x hx => ?_, ?_, ⟨_, _, _, rfl⟩, ?_⟩
            · rcases List.mem_append.mp hx with h | h
              · exact z2.tups x h
              · rw [List.mem_singleton.mp h]
                exact hv.tup
            · have a1 := z2.len
              have a1 : zs.length = D3.q.length := a1
              have a2 := M2.ql
              rw [← hD1] at a2
              have a2 : _ ≤ Dk.cells s.length t.length 54 D.f + (Hq.popped ltE D.q).length := a2
              omega
            · exact st7.putq z3
        · clear o14 o15 o16 st2 hx0 lti
          rintro σ H9 ⟨⟨o14, o15, o16, rfl⟩, st2⟩
          rw [ev2.len, List.take_length] at st2
          exact ⟨⟨_, _, _, _, _, rfl⟩, st2⟩
      · rintro σ H9 ⟨⟨o12, o13, o14, o15, o16, rfl⟩, st2⟩
        rw [ev1.len, List.take_length] at st2
        exact ⟨⟨_, _, _, _, _, _, _, _, rfl⟩, st2⟩
    · rw [decide_eq_false hf, if_neg hf]
      exact iteF ⟨⟨_, _, _, _, _, _, _, _, rfl⟩, st1⟩
end
end KC

namespace Gd
open PySem PySem.Spec PyProof.Rows L2
section
variable {P : Program} {w : World} {K : PySem.W.Frag} {mg : Str → Option Value} {base : Heap} {CX : CXT} {k j : Nat} {f : Addr} {fd : FuncData} {ps : List Str} {sp : Sp}
theorem okGd {CX : CXT} {x qual : Str} {st : Stmt} {N : List Str} {dvs : List V} {kws : List (Str × V)} (F : FunD K x qual (defArgs st) (defBody st) (defScope st) dvs kws f fd) (S : FnScope N ps (defScope st)) (len : ∀ vs H Q E, sp vs H Q E → vs.length = ps.length)
    (hbody : ∀ (cdv : Value) (A : Around) (outer : List Env) (s : Shared) (H : Hp) (vs : List V) (Q : VK) (E : XK), Clean A → Room k (A.deeper (envOfC qual (defScope st) s.heap.objs.size f cdv)) → sp vs H Q E →
      ∃ t, PSs (cxOf CX P w K mg base N qual (defScope st) f cdv A outer s H E) (defBody st) t ∧ t { nx := fun _ H' => Q .non H', rt := Q } (start N vs) H) : FnG P w K mg base CX (k + 1) f fd ps sp := by
  obtain ⟨oc, od, dV, kV, doc, pm, an, cdv, ct, osl, efd, lk, hcd, _, _⟩ := F.ex
  subst efd
  refine ⟨len, fun A outer s H args us vs Q E hc hr e0 hb r hsp => ?_⟩
  have bk : ∀ b o, base.get? b = some o → s.heap.get? b = some o := fun b o e => (e0.bs b o e).1
  have KX : K.In s.heap := e0.mod.kin.keeps bk
  have hkind : ∀ y ∈ ps.zip us, (defScope st).names.lookup y.1 = some .local ∨ ((defScope st).names.lookup y.1 = some .cell ∧ ((cellsFrom (s.heap.objs.size + 1) (defScope st).names []).lookup y.1).isSome = true) := by
    rintro ⟨n, v⟩ hy
    exact (S.par n (List.of_mem_zip hy).1).imp id fun q => ⟨q, PySem.W.cellsFrom_some _ _ _ (.inl q)⟩
  refine codeAny_call_function hr.depth (KX _ _ lk) rfl S.co S.gen rfl (PySem.W.codeRec_of KX hcd) (hb _ _ _ _ (wpAny_newFunctionEnv_cells S.kind hkind ?_))
  intro env he s1 x
  subst he
  refine ⟨(e0.mod.nolimit.keeps bk).keeps x.toInCall.keep, codeAny_func ?_⟩
  obtain ⟨t, ht, hq⟩ := hbody cdv A outer s H vs Q E hc (hr.deeper _) hsp
  have I := inv_start (CX := CX) (E := E) S hr.hd e0 (len _ _ _ _ hsp) r x
  refine wpAny_mono (ht.run [] s1 (start N vs) H _ I hq) (fun fl s' hs => ?_) fun _ _ z => z
  match fl, hs with
  | .ret u, ⟨v, σ', H', J, rv, q⟩ => exact ⟨v, H', J.os, J.bare, J.base, J.hok, rv, q⟩
  | .next, ⟨σ', H', J, q⟩ => exact ⟨V.non, H', J.os, J.bare, J.base, J.hok, rfl, q⟩
  | .brk, ⟨_, _, _, q⟩ => exact q.elim
  | .cont, ⟨_, _, _, q⟩ => exact q.elim
end
end Gd

namespace KC
open PySem L2 Gd Fw KM
/-- least cost and script -/
def ans (cs : List Nat) (p : Fn Str) (s t : List Str) : Option (Int × List (Str × Str)) := ((fin cs p s t).f 0 0).map fun c => (c, Dk.walk (fin cs p s t).g (s.length + t.length) 0 0)
def AnsAt (G H : Hp) (r : V) : Option (Int × List (Str × Str)) → Prop
  | none => r = .non
  | some (c, l) => ∃ (b L : Addr) (us : List V), r = .ref b ∧ H b = some (.tup [.int c, .ref L]) ∧ H L = some (.lst us) ∧ PrsAt H us l ∧ G L = none
def spWay (C : Addr) : Sp := fun vs H Q _ => ∃ v one other cs p s t, vs = [v, one, other, .int 0] ∧ PrAt C H v cs p ∧ Alp cs ∧ Prc (symL cs) p ∧ Cap (symL cs) p ∧ TabAt H one s ∧ TabAt H other t ∧ (∀ x ∈ s, x ∈ symL cs) ∧ (∀ x ∈ t, x ∈ symL cs) ∧ s.length ≤ 10000 ∧ t.length ≤ 10000 ∧ Small s t ∧
  ∀ r H', Same H H' → AnsAt H H' r (ans cs p s t) → Q r H'
def spScript (C : Addr) : Sp := fun vs H Q _ => ∃ v a b cs p, vs = [v, .str a, .str b] ∧ PrAt C H v cs p ∧ Alp cs ∧ Prc (symL cs) p ∧ Cap (symL cs) p ∧ Ov cs a ∧ Ov cs b ∧ a.length ≤ 10000 ∧ b.length ≤ 10000 ∧ Small (ltr a) (ltr b) ∧
  ∀ r H', Same H H' → AnsAt H H' r (ans cs p (ltr a) (ltr b)) → Q r H'
theorem fin_inv {cs : List Nat} {p : Fn Str} {s t : List Str} (al : Alp cs) (pp : Prc (symL cs) p) (cap : Cap (symL cs) p) : Dk.Hyp (wgt cs p) (Dk.ent eps s) (Dk.ent eps t) s.length t.length 54 ∧
    Dk.Best (wgt cs p) (Dk.ent eps s) (Dk.ent eps t) s.length t.length (fin cs p s t).f ∧ Dk.Tight (wgt cs p) (Dk.ent eps s) (Dk.ent eps t) s.length t.length (fin cs p s t).f (fin cs p s t).g := by
  have hyp : Dk.Hyp (wgt cs p) (Dk.ent eps s) (Dk.ent eps t) s.length t.length 54 := Dk.hyp_ent wgt_eps (fun h => wgt_pos al pp cap h)
  have i0 : Dk.Inv (wgt cs p) (Dk.ent eps s) (Dk.ent eps t) s.length t.length 54 (st0 s.length t.length) := Dk.start_inv
  have iv := Dk.itn_inv (lt := ltE) hyp (Dk.mu s.length t.length 54 (st0 s.length t.length)) i0
  have dn := Dk.itn_done (lt := ltE) hyp _ i0 (Nat.le_refl _)
  exact ⟨hyp, Dk.best_of iv dn, Dk.tight_of iv dn⟩
section
variable {P : Program} {w : World} {K : PySem.W.Frag} {mg : Str → Option Value} {base : Heap}
abbrev scheapest_way : Stmt := top 38
theorem sccheapest_way : FnScope ["prices", "one", "other", "start", "found", "steps", "script", "step", "source", "target", "state", "goal"] ["prices", "one", "other", "start"] (defScope scheapest_way) := ⟨rfl, rfl, rfl, by decide +kernel, rfl, by decide +kernel, by decide +kernel⟩
theorem ok_way {C f f1 : Addr} {fd fd1 : FuncData} {dvs : List V} {kws : List (Str × V)} (F : FunD K "cheapest_way" "cheapest_way" (defArgs scheapest_way) (defBody scheapest_way) (defScope scheapest_way) dvs kws f fd) (T : Txt mg base)
    (D_searched : Df P w K mg base CX0 6 "searched" f1 fd1 ["prices", "one", "other"] (spSrch C)) : FnG P w K mg base CX0 7 f fd ["prices", "one", "other", "start"] (spWay C) := by
  refine okGd F sccheapest_way (fun vs H Q E h => ?_) (fun cdv A outer s0 H vs Q E hc hr h => ?_)
  · obtain ⟨v, one, other, cs, p, s, t, rfl, _⟩ := h
    rfl
  obtain ⟨v, one, other, cs, p, s, t, rfl, pr, al, pp, cap, t1, t2, m1, m2, ls, lt, sm, q⟩ := h
  refine ⟨_, (pss_cons (ps_if (PW.pt (pw_or (pt_cmpR op_eq (pe_callB call_len (by rfl) T.z_len (by decide +kernel) (pa_cons (pe_ix ix_tup (pv 1) pe_int (fun _ _ => rfl)) pa_nil)) pe_int (nomark _)) (pw_or1 (pt_cmpR op_eq (pe_callB call_len (by rfl) T.z_len (by decide +kernel) (pa_cons (pe_ix ix_tup (pv 2) pe_int (fun _ _ => rfl)) pa_nil)) pe_int (nomark _)))))
  (pss_one (ps_ret pe_non)) pss_nil)
 (pss_cons (ps_asg (pe_d D_searched hc (hr.mono (by omega)) (by rfl) (fun _ => passN) (pa_cons (pv 0) (pa_cons (pv 1) (pa_cons (pv 2) pa_nil)))) (pg_tup (by rfl) (pgs_cons (pg_name (i := 4) sccheapest_way.nd rfl (Or.inl rfl)) (pgs_cons (pg_name (i := 5) sccheapest_way.nd rfl (Or.inl rfl)) pgs_nil))))
 (pss_cons (ps_if (pt_cmpR op_isN (pe_ix ix_list (pe_ix ix_list (pv 4) pe_int (fun _ _ => rfl)) (pv 3) (fun _ _ => rfl)) pe_non (nomark _))
  (pss_one (ps_ret pe_non)) pss_nil)
 (pss_cons (ps_set (i := 6) sccheapest_way.nd rfl (Or.inl rfl) (pe_lst pa_nil))
 (pss_cons (ps_set (i := 7) sccheapest_way.nd rfl (Or.inl rfl) (pe_ix ix_list (pe_ix ix_list (pv 5) pe_int (fun _ _ => rfl)) (pv 3) (fun _ _ => rfl)))
 (pss_cons (ps_while (passes_of rfl) (pt_cmpR op_notN (pv 7) pe_non (nomark _))
  (pss_cons (ps_asg (pv 7) (pg_tup (by rfl) (pgs_cons (pg_name (i := 8) sccheapest_way.nd rfl (Or.inl rfl)) (pgs_cons (pg_name (i := 9) sccheapest_way.nd rfl (Or.inl rfl)) (pgs_cons (pg_name (i := 10) sccheapest_way.nd rfl (Or.inl rfl)) (pgs_cons (pg_name (i := 11) sccheapest_way.nd rfl (Or.inl rfl)) pgs_nil))))))
 (pss_cons (ps_expr (pe_bm PySem.F.plainAttrs_list PySem.F.slot_list_append PySem.F.type_list_append mt_append (pv 6) (pa_cons (pe_tup (pa_cons (pv 8) (pa_cons (pv 9) pa_nil))) pa_nil)))
 (pss_one (ps_set (i := 7) sccheapest_way.nd rfl (Or.inl rfl) (pe_ix ix_list (pe_ix ix_list (pv 5) (pv 10) (fun _ _ => rfl)) (pv 11) (fun _ _ => rfl)))))))
 (pss_one (ps_ret (pe_tup (pa_cons (pe_ix ix_list (pe_ix ix_list (pv 4) pe_int (fun _ _ => rfl)) (pv 3) (fun _ _ => rfl)) (pa_cons (pv 6) pa_nil))))))))))), ?_⟩
  have sz := sizeLine_eq
  obtain ⟨hyp, best, tight⟩ := fin_inv (s := s) (t := t) al pp cap
  obtain ⟨p1, R1, Z1, rs1, rfl, a1, a2, a3, a4⟩ := id t1
  obtain ⟨p2, R2, Z2, rs2, rfl, b1, b2, b3, b4⟩ := id t2
  have e1 : decide (V.int (((rs1.map V.ref).length : Nat) : Int) = V.int 0) = false := decide_eq_false fun z => by
    injection z with z
    rw [List.length_map, a4.1] at z
    omega
  have e2 : decide (V.int (((rs2.map V.ref).length : Nat) : Int) = V.int 0) = false := decide_eq_false fun z => by
    injection z with z
    rw [List.length_map, b4.1] at z
    omega
  refine ⟨_, rfl, p1, _, _, _, rfl, rfl, SqT.of a1, atI_nat (j := 0) rfl, .ref R1, _, rfl, .inl ⟨_, SqL.of a3, rfl⟩, rfl, _, rfl, ?_⟩
  rw [e1]
  refine iteF ⟨_, rfl, p2, _, _, _, rfl, rfl, SqT.of b1, atI_nat (j := 0) rfl, .ref R2, _, rfl, .inl ⟨_, SqL.of b3, rfl⟩, rfl, _, rfl, ?_⟩
  rw [e2]
  refine iteF ?_
  refine ⟨_, rfl, _, rfl, _, rfl, v, _, _, cs, p, s, t, rfl, pr, al, pp, cap, t1, t2, m1, m2, ls, lt, sm, fun r H1 s1 sr => ?_⟩
  obtain ⟨a, F, S, rf, rg, R, rfl, ha, mf, ms, sp⟩ := sr
  refine ⟨a, _, rfl, SqT.of ha, rfl, _, _, rfl, _, _, rfl, rfl, ?_⟩
  obtain ⟨a0, ha0, hl0⟩ := mf.row (Nat.zero_le _)
  refine ⟨_, rfl, F, _, _, _, rfl, rfl, SqL.of mf.hF, atI_nat (j := 0) (by rw [List.getElem?_map, ha0]; rfl), _, rfl, a0, _, _, _, rfl, rfl, SqL.of hl0, atI_nat (j := 0) (mRow_at (Nat.zero_le _)), ?_⟩
  refine ⟨rfl, _, rfl, ?_⟩
  show if decide (oV ((fin cs p s t).f 0 0) = V.non) = true then _ else _
  rw [oV_non]
  unfold ans at q
  cases e0 : (fin cs p s t).f 0 0 with
  | none =>
    rw [e0] at q
    exact iteT (q _ _ s1 rfl)
  | some c0 =>
  rw [e0] at q
  refine iteF ⟨by show 0 ≤ sizeLine; decide, fun L hL => ?_⟩
  have nL : H L = none := same_free s1 hL
  have sL := same_new (o := .lst []) hL
  have hL2 := upd_same (H := H1) (a := L) (o := .lst [])
  obtain ⟨b0, hb0, hm0⟩ := ms.row (Nat.zero_le _)
  refine ⟨_, rfl, S, _, _, _, rfl, rfl, SqL.of (sL _ _ ms.hF), atI_nat (j := 0) (by rw [List.getElem?_map, hb0]; rfl), _, rfl, b0, _, _, _, rfl, rfl, SqL.of (sL _ _ hm0), atI_nat (j := 0) (mRow_at (Nat.zero_le _)), ?_⟩
  refine ⟨fun μ σ H' => ∃ (i j : Nat) (c : Int) (us : List V) (l : List (Str × Str)) (o8 o9 o10 o11 : Option V), σ = [some v, some (.ref p1), some (.ref p2), some (.int 0), some (.ref F), some (.ref S), some (.ref L), some (R i j), o8, o9, o10, o11] ∧ i ≤ s.length ∧ j ≤ t.length ∧ (s.length - i) + (t.length - j) ≤ μ ∧ μ ≤ s.length + t.length ∧
    (fin cs p s t).f i j = some c ∧ H' L = some (.lst us) ∧ PrsAt H' us l ∧ l ++ Dk.walk (fin cs p s t).g μ i j = Dk.walk (fin cs p s t).g (s.length + t.length) 0 0 ∧ us.length + μ ≤ s.length + t.length ∧ Same H1 H',
    ⟨s.length + t.length, 0, 0, c0, [], [], _, _, _, _, rfl, Nat.zero_le _, Nat.zero_le _, by omega, Nat.le_refl _, e0, hL2, .nil, rfl, by show 0 + _ ≤ _; omega, sL⟩, ?_⟩
  rintro μ σ H2 ⟨i, j, c, us, l, o8, o9, o10, o11, rfl, li, lj, lm, lN, ec, hu, hp, hw, hul, s2⟩
  have sij := (sp i j).mono fun b xs z => s2 b _ z
  refine ⟨_, rfl, rfl, _, rfl, ?_⟩
  cases eg : (fin cs p s t).g i j with
  | none =>
    rw [eg] at sij
    have sij : R i j = .non := sij
    rw [sij]
    rw [Dk.walk_nil eg, List.append_nil] at hw
    refine iteF ?_
    refine ⟨_, rfl, F, _, _, _, rfl, rfl, SqL.of (s2 _ _ mf.hF), atI_nat (j := 0) (by rw [List.getElem?_map, ha0]; rfl), _, rfl, a0, _, _, _, rfl, rfl, SqL.of (s2 _ _ hl0), atI_nat (j := 0) (mRow_at (Nat.zero_le _)), _, rfl, by show 2 ≤ sizeLine; decide, fun r hr' => ?_⟩
    have sr := same_new (o := .tup [oV ((fin cs p s t).f 0 0), V.ref L]) hr'
    refine q _ _ (s1.trans (s2.trans sr)) ⟨r, L, us, rfl, ?_, sr _ _ hu, ?_, nL⟩
    · rw [upd_same, e0]
      rfl
    · rw [← hw]
      exact hp.same sr
  | some z =>
    obtain ⟨x, y, i', j'⟩ := z
    rw [eg] at sij
    obtain ⟨b, hb, htb⟩ := sij
    rcases tight.via li lj ec with ⟨rfl, rfl⟩ | ⟨x2, y2, i2, j2, k, c', g1, g2, g3, g4, g5, g6⟩
    · rw [tight.en] at eg
      exact nomatch eg
    rw [eg] at g1
    cases g1
    obtain ⟨d1, d2, d3⟩ := hyp.dec g2 g3 g4
    match μ, lm, lN, hw, hul with
    | 0, lm, _, _, _ => omega
    | μ + 1, lm, lN, hw, hul =>
    have ew : Dk.walk (fin cs p s t).g (μ + 1) i j = (x, y) :: Dk.walk (fin cs p s t).g μ i' j' := by
      simp only [Dk.walk, eg]
    rw [ew] at hw
    rw [hb]
    refine iteT ⟨fun σ H' => ∃ (c : Int) (us : List V) (l : List (Str × Str)) (o8 o9 o10 o11 : Option V), σ = [some v, some (.ref p1), some (.ref p2), some (.int 0), some (.ref F), some (.ref S), some (.ref L), some (R i' j'), o8, o9, o10, o11] ∧
      (fin cs p s t).f i' j' = some c ∧ H' L = some (.lst us) ∧ PrsAt H' us l ∧ l ++ Dk.walk (fin cs p s t).g μ i' j' = Dk.walk (fin cs p s t).g (s.length + t.length) 0 0 ∧ us.length + μ ≤ s.length + t.length ∧ Same H1 H', ?_, ?_⟩
    · rintro σ' H' ⟨c, us, l, o8, o9, o10, o11, rfl, h1, h2, h3, h4, h5, h6⟩
      exact ⟨μ, Nat.lt_succ_self _, i', j', c, us, l, _, _, _, _, rfl, g3, g4, by omega, by omega, h1, h2, h3, h4, h5, h6⟩
    refine ⟨_, rfl, b, _, rfl, SqT.of htb, rfl, _, _, rfl, _, _, rfl, _, _, rfl, _, _, rfl, rfl, ?_⟩
    refine ⟨_, rfl, .inl ⟨rfl, _, SqL.of hu⟩, _, rfl, _, rfl, by show 2 ≤ sizeLine; decide, fun d hd => ?_⟩
    have sd := same_new (o := .tup [V.str x, V.str y]) hd
    refine ⟨L, us, _, rfl, rfl, sd _ _ hu, by omega, ?_⟩
    have s3 : Same H1 (upd (upd H2 d (.tup [V.str x, V.str y])) L (.lst (us ++ [.ref d]))) := fun b o hb => by
      rw [upd_ne (ne_of_none hb hL)]
      exact sd _ _ (s2 _ _ hb)
    obtain ⟨b1', hb1, hm1⟩ := ms.row g3
    refine ⟨_, rfl, _, rfl, S, _, _, _, rfl, rfl, SqL.of (s3 _ _ ms.hF), atI_nat (by rw [List.getElem?_map, hb1]; rfl), _, rfl, b1', _, _, _, rfl, rfl, SqL.of (s3 _ _ hm1), atI_nat (mRow_at g4), ?_⟩
    refine ⟨c', us ++ [.ref d], l ++ [(x, y)], _, _, _, _, rfl, g5, upd_same, ?_, ?_, ?_, s3⟩
    · refine PrsAt.app ((hp.same sd).upd (sd _ _ hu)) (.cons ?_ .nil)
      rw [upd_ne (fun z => by rw [z, hu] at hd; exact nomatch hd)]
      exact upd_same
    · rw [List.append_assoc]
      exact hw
    · rw [List.length_append, List.length_singleton]
      omega
abbrev scheapest_script : Stmt := top 42
theorem sccheapest_script : FnScope ["prices", "source", "target"] ["prices", "source", "target"] (defScope scheapest_script) := ⟨rfl, rfl, rfl, by decide +kernel, rfl, by decide +kernel, by decide +kernel⟩
theorem ok_script {C f f1 f2 f3 : Addr} {fd fd1 fd2 fd3 : FuncData} (F : Fun K "cheapest_script" "cheapest_script" scheapest_script f fd) (T : Txt mg base)
    (D_require_texts : Df P w K mg base CX0 4 "require_texts" f1 fd1 ["prices", "source", "target"] (spReqTs C)) (D_text_table : Df P w K mg base CX0 1 "text_table" f2 fd2 ["text"] spTT)
    (D_cheapest_way_d : Dd P w K mg base CX0 7 "cheapest_way" f3 fd3 ["prices", "one", "other", "start"] [.int 0] (spWay C)) : FnG P w K mg base CX0 8 f fd ["prices", "source", "target"] (spScript C) := by
  refine okG F sccheapest_script (fun vs H Q E h => ?_) (fun cdv A outer s0 H vs Q E hc hr h => ?_)
  · obtain ⟨v, a, b, cs, p, rfl, _⟩ := h
    rfl
  obtain ⟨v, a, b, cs, p, rfl, pr, al, pp, cap, oa, ob, la, lb, sm, q⟩ := h
  refine ⟨_, (pss_cons (ps_expr (pe_d D_require_texts hc (hr.mono (by omega)) (by rfl) (fun _ => passN) (pa_cons (pv 0) (pa_cons (pv 1) (pa_cons (pv 2) pa_nil)))))
 (pss_one (ps_ret (pe_dd D_cheapest_way_d hc (hr.mono (by omega)) (by rfl) (fun _ => passN) (pa_cons (pv 0) (pa_cons (pe_d D_text_table hc (hr.mono (by omega)) (by rfl) (fun _ => passN) (pa_cons (pv 1) pa_nil)) (pa_cons (pe_d D_text_table hc (hr.mono (by omega)) (by rfl) (fun _ => passN) (pa_cons (pv 2) pa_nil)) pa_nil))))))), ?_⟩
  have sy : ∀ {x : Str}, Ov cs x → ∀ z ∈ ltr x, z ∈ symL cs := fun {x} o z hz => by
    obtain ⟨c, hc, rfl⟩ := List.mem_map.mp hz
    exact List.mem_cons_of_mem _ (List.mem_map.mpr ⟨c, o c hc, rfl⟩)
  have ll : ∀ {x : Str}, (ltr x).length = x.length := fun {x} => by rw [List.length_map, len_list]
  refine ⟨_, rfl, _, rfl, _, rfl, v, a, b, cs, p, rfl, pr, al, oa, la, ob, lb, fun H1 s1 => ?_⟩
  refine ⟨_, rfl, _, rfl, a, rfl, la, fun t1 H2 s2 h2 => ?_⟩
  refine ⟨_, rfl, b, rfl, lb, fun t2 H3 s3 h3 => ?_⟩
  have pr3 := ((pr.same s1).same s2).same s3
  refine ⟨v, t1, t2, cs, p, ltr a, ltr b, rfl, pr3, al, pp, cap, h2.same s3, h3, sy oa, sy ob, by rw [ll]; exact la, by rw [ll]; exact lb, sm, fun r H4 s4 ha => ?_⟩
  have S : Same H H3 := s1.trans (s2.trans s3)
  refine q r H4 (S.trans s4) ?_
  revert ha
  cases ans cs p (ltr a) (ltr b) with
  | none => exact fun h => h
  | some z => exact fun ⟨b, L, us, h1, h2, h3, h4, h5⟩ => ⟨b, L, us, h1, h2, h3, h4, same_free S h5⟩
end
end KC

namespace KC
open PySem L2 Gd Fw KM
def spLSum : Sp := fun vs H Q _ => ∃ a b : Co, vs = [oV a, oV b] ∧ ∀ l, H l = none → Q (.ref l) (upd H l (.lst ((Dk.o1 (csum a b)).map V.int)))
/-- what the rest costs, from all places -/
def RestAt (H : Hp) (v : V) (n m : Nat) (R : Nat → Nat → Co) : Prop := ∃ F rs, v = .ref F ∧ Mx H F rs n m fun i j => oV (R i j)
def spRest : Sp := fun vs H Q _ => ∃ (d : Addr) (a b : Str) (cs : List Nat) (p : Fn Str), vs = [.ref d, .str a, .str b] ∧ Alp cs ∧ DFn H d (symL cs) (spn cs p) ∧ Ov cs a ∧ Ov cs b ∧ a.length ≤ 10000 ∧ b.length ≤ 10000 ∧
  ∀ v H' R, Same H H' → RestAt H' v a.length b.length R → (∀ i j, i ≤ a.length → j ≤ b.length → Dk.Loc (wgt cs p) eps (ltr a) (ltr b) R i j) → Q v H'
theorem flat_one' (n : Nat) (v : V) : (List.replicate n [v]).flatten = List.replicate n v := by
  induction n with
  | zero => rfl
  | succ n ih =>
    rw [List.replicate_succ, List.flatten_cons, ih]
    rfl
/-- the table of what remains as it fills -/
structure MSt (G : Hp) (F : Addr) (rs : List Addr) (n m : Nat) (R : Nat → Nat → Co) (H : Hp) : Prop where
  sm : Same G H
  nd : (F :: rs).Nodup
  fr : ∀ a ∈ F :: rs, G a = none
  mx : Mx H F rs n m fun i j => oV (R i j)
theorem MSt.same {G H H' : Hp} {F : Addr} {rs : List Addr} {n m : Nat} {R : Nat → Nat → Co} (h : MSt G F rs n m R H) (e : Same H H') : MSt G F rs n m R H' :=
  ⟨h.sm.trans e, h.nd, h.fr, ⟨e _ _ h.mx.hF, h.mx.len, fun i a hi => e _ _ (h.mx.at_ i a hi)⟩⟩
theorem MSt.put {G H : Hp} {F : Addr} {rs : List Addr} {n m : Nat} {R : Nat → Nat → Co} (h : MSt G F rs n m R H) {i j : Nat} {a : Addr} {v : Co} (ha : rs[i]? = some a) : MSt G F rs n m (Dk.up2 R i j v) (upd H a (.lst ((mRow m fun j => oV (R i j)).set j (oV v)))) := by
  have ma := List.mem_of_getElem? ha
  have := h.mx.set h.nd ha (j := j) (v := oV v)
  refine ⟨fun b u hb => ?_, h.nd, h.fr, this.hF, this.len, fun k b hb => ?_⟩
  · rw [upd_ne (fun e => by rw [e, h.fr a (List.mem_cons_of_mem _ ma)] at hb; exact nomatch hb)]
    exact h.sm b u hb
  · rw [this.at_ k b hb]
    congr 2
    refine mRow_congr fun c _ => ?_
    show Dk.up2 _ i j (oV v) k c = oV (Dk.up2 R i j v k c)
    unfold Dk.up2
    split <;> rfl
theorem sum_ok {key cell : TE} {σ : L2.St} {H : Hp} {Q : VK} {l : Addr} {L : List Int} {u v : Co} (h6 : σ[6]? = some (some (.ref l))) (hl : H l = some (.lst (L.map V.int))) (len : L.length ≤ 10)
    (hk : ∀ Q : VK, (∀ H', Same H H' → Q (oV u) H') → key σ H Q) (hcl : ∀ H', Same H H' → ∀ Q : VK, Q (oV v) H' → cell σ H' Q)
    (q : ∀ p H', Same H H' → H' p = some (.lst ((L ++ Dk.o1 (csum u v)).map V.int)) → Q (.ref p) H') :
    tOp rCat (tVar 6) (tCallG spLSum [] (fun x => E0) (tCons key (tCons cell tNil))) σ H Q := by
  refine ⟨_, h6, hk _ fun H1 s1 => hcl H1 s1 _ ⟨u, v, rfl, fun p hp => ?_⟩⟩
  have sp := same_new (o := .lst ((Dk.o1 (csum u v)).map V.int)) hp
  have ol := Dk.o1_len (csum u v)
  refine ⟨l, p, _, _, rfl, rfl, sp _ _ (s1 _ _ hl), upd_same, by rw [List.length_map, List.length_map, sizeLine_eq]; omega, fun b hb => ?_⟩
  refine q b _ (s1.trans (sp.trans (same_new hb))) ?_
  rw [upd_same, List.map_append]
/-- the slots while a cell is found -/
abbrev rSl (d F : Addr) (a b : Str) (x y : Nat) (o6 o7 : Option V) : L2.St := [some (.ref d), some (.str a), some (.str b), some (.ref F), some (.int (x : Nat)), some (.int (y : Nat)), o6, o7]
section
variable {K : PySem.W.Frag} {G H : Hp} {d F l : Addr} {a b : Str} {cs : List Nat} {p : Fn Str} {rs : List Addr} {R : Nat → Nat → Co} {x y : Nat} {o6 o7 : Option V} {D : Ends}
abbrev tLenA (i : Nat) : TE := tCB (fun xs H Q => ∃ z, xs = [V.str z] ∧ z.length ≤ sizeLine ∧ Q (V.int z.length) H) (tCons (tVar i) tNil)
abbrev tPlus (i : Nat) : TE := tOp (rI0 fun i j => V.int (i + j)) (tVar i) (tC (V.int 1))
abbrev tLess (i j : Nat) : TT := tTest (tOp (rI0 fun i j => V.bl (decide (i < j))) (tVar i) (tLenA j))
theorem less_ok {σ : L2.St} {Q : Bool → Hp → Prop} {i j u : Nat} {z : Str} (h1 : σ[i]? = some (some (.int (u : Nat)))) (h2 : σ[j]? = some (some (.str z))) (hz : z.length ≤ 10000) (h : Q (decide (u < z.length)) H) : tLess i j σ H Q := by
  refine ⟨_, h1, _, h2, z, rfl, by rw [sizeLine_eq]; omega, _, _, rfl, rfl, _, rfl, ?_⟩
  have : decide ((u : Int) < (z.length : Nat)) = decide (u < z.length) := decide_eq_decide.mpr (by omega)
  show Q (decide ((u : Int) < (z.length : Nat))) H
  rw [this]
  exact h
theorem ltr_at {z : Str} {i : Nat} (h : i < z.length) : ∃ c, z.cps.toList[i]? = some c ∧ (ltr z)[i]? = some (⟨#[c]⟩ : Str) := by
  have hl : i < z.cps.toList.length := by rw [← len_list]; exact h
  refine ⟨z.cps.toList[i], List.getElem?_eq_getElem hl, ?_⟩
  rw [List.getElem?_map, List.getElem?_eq_getElem hl]
  rfl
theorem ltr_len {z : Str} : (ltr z).length = z.length := by rw [List.length_map, len_list]
theorem sym_at {z : Str} {c i : Nat} (o : Ov cs z) (h : z.cps.toList[i]? = some c) : (⟨#[c]⟩ : Str) ∈ symL cs := List.mem_cons_of_mem _ (List.mem_map.mpr ⟨c, o c (List.mem_of_getElem? h), rfl⟩)
theorem wgt_of {x y : Str} (hx : x ∈ symL cs) (hy : y ∈ symL cs) (h : ¬ (x = eps ∧ y = eps)) : wgt cs p x y = spn cs p x y := if_pos ⟨hx, hy, h⟩
theorem one_eps (c : Nat) : (⟨#[c]⟩ : Str) ≠ eps := fun z => empty_sg c z.symm
theorem chr_ok {σ : L2.St} {Q : VK} {i j u c : Nat} {z : Str} (h1 : σ[i]? = some (some (.str z))) (h2 : σ[j]? = some (some (.int (u : Nat)))) (hz : z.length ≤ 10000) (hc : z.cps.toList[u]? = some c) (h : Q (.str ⟨#[c]⟩) H) : tOp rIxS (tVar i) (tVar j) σ H Q :=
  ⟨_, h1, _, h2, z, _, c, rfl, rfl, by rw [sizeLine_eq]; omega, atI_nat hc, h⟩
theorem cell_ok {σ : L2.St} {Q : VK} {ti tj : TE} {i j n m : Nat} (hF : σ[3]? = some (some (.ref F))) (st : MSt G F rs n m R H) (li : i ≤ n) (lj : j ≤ m) (hi : ∀ Q : VK, Q (.int (i : Nat)) H → ti σ H Q) (hj : ∀ Q : VK, Q (.int (j : Nat)) H → tj σ H Q) (h : Q (oV (R i j)) H) :
    tOp (rIxL K) (tOp (rIxL K) (tVar 3) ti) tj σ H Q := by
  obtain ⟨r, hr, hl⟩ := st.mx.row li
  refine ⟨_, hF, hi _ ⟨F, _, _, _, rfl, rfl, SqL.of st.mx.hF, atI_nat (by rw [List.getElem?_map, hr]; rfl), hj _ ⟨r, _, _, _, rfl, rfl, SqL.of hl, atI_nat (mRow_at lj), h⟩⟩⟩
theorem plus_ok {σ : L2.St} {Q : VK} {i u : Nat} (h1 : σ[i]? = some (some (.int (u : Nat)))) (h : Q (.int ((u + 1 : Nat) : Int)) H) : tPlus i σ H Q := ⟨_, h1, _, _, rfl, rfl, h⟩
theorem pair_ok {σ : L2.St} {Q : VK} {tx ty : TE} {u v : Str} (hd0 : σ[0]? = some (some (.ref d))) (hd : DFn H d (symL cs) (spn cs p)) (hx : u ∈ symL cs) (hy : v ∈ symL cs) (h1 : ∀ Q : VK, Q (.str u) H → tx σ H Q) (h2 : ∀ Q : VK, Q (.str v) H → ty σ H Q)
    (h : ∀ H', Same H H' → Q (oV (spn cs p u v)) H') : tDGet (tVar 0) (tTup (tCons tx (tCons ty tNil))) σ H Q := by
  refine ⟨_, hd0, h1 _ (h2 _ ⟨by show 2 ≤ sizeLine; decide, fun t ht => ?_⟩)⟩
  have st := same_new (o := .tup [V.str u, V.str v]) ht
  exact ⟨d, _, rfl, (hd.same st).get hx hy upd_same, h _ st⟩
structure REnv (G : Hp) (d F : Addr) (a b : Str) (cs : List Nat) (p : Fn Str) (rs : List Addr) (R : Nat → Nat → Co) (H : Hp) : Prop where
  al : Alp cs
  oa : Ov cs a
  ob : Ov cs b
  la : a.length ≤ 10000
  lb : b.length ≤ 10000
  hd : DFn H d (symL cs) (spn cs p)
  st : MSt G F rs a.length b.length R H
theorem REnv.same {H' : Hp} (h : REnv G d F a b cs p rs R H) (e : Same H H') : REnv G d F a b cs p rs R H' := ⟨h.al, h.oa, h.ob, h.la, h.lb, h.hd.same e, h.st.same e⟩
theorem s1_ok (en : REnv G d F a b cs p rs R H) (q : ∀ l H', Same H H' → H' l = some (.lst ((Dk.pA (ltr a) (ltr b) x y).map V.int)) → D.nx (rSl d F a b x y (some (.ref l)) o7) H') :
    tAsg (tIf (tAnd (tTest (tOp rEq (tVar 4) (tLenA 1))) (tTest (tOp rEq (tVar 5) (tLenA 2)))) (tLst (tCons (tC (V.int 0)) tNil)) (tLst tNil)) (gName 6) D (rSl d F a b x y o6 o7) H := by
  have sz := sizeLine_eq
  have la := en.la
  have lb := en.lb
  have e1 : ∀ u v : Nat, decide (V.int (u : Nat) = V.int (v : Nat)) = decide (u = v) := fun u v => decide_eq_decide.mpr ⟨fun z => by injection z with z; omega, fun z => by rw [z]⟩
  unfold Dk.pA at q
  rw [ltr_len, ltr_len] at q
  refine ⟨_, rfl, _, rfl, a, rfl, by omega, rfl, _, rfl, ?_⟩
  rw [e1]
  by_cases hx : x = a.length
  · rw [decide_eq_true hx]
    refine iteT ⟨_, rfl, _, rfl, b, rfl, by omega, rfl, _, rfl, ?_⟩
    rw [e1]
    by_cases hy : y = b.length
    · rw [if_pos ⟨hx, hy⟩] at q
      rw [decide_eq_true hy]
      exact iteT ⟨by show 1 ≤ sizeLine; decide, fun l hl => q l _ (same_new hl) upd_same⟩
    · rw [if_neg (fun z => hy z.2)] at q
      rw [decide_eq_false hy]
      exact iteF ⟨by show 0 ≤ sizeLine; decide, fun l hl => q l _ (same_new hl) upd_same⟩
  · rw [if_neg (fun z => hx z.1)] at q
    rw [decide_eq_false hx]
    exact iteF (iteF ⟨by show 0 ≤ sizeLine; decide, fun l hl => q l _ (same_new hl) upd_same⟩)
theorem s2_ok {L : List Int} (en : REnv G d F a b cs p rs R H) (lx : x ≤ a.length) (ly : y ≤ b.length) (hl : H l = some (.lst (L.map V.int))) (ll : L.length ≤ 9)
    (q : ∀ l H', Same H H' → H' l = some (.lst ((L ++ Dk.pB (wgt cs p) (ltr a) (ltr b) R x y).map V.int)) → D.nx (rSl d F a b x y (some (.ref l)) o7) H') :
    tIfS (tAnd (tLess 4 1) (tAnd (tLess 5 2) (tTest (tOp (fun x y H Q => y = V.non ∧ Q (V.bl !decide (x = V.non)) H) (tOp (rIxL K) (tOp (rIxL K) (tVar 3) (tPlus 4)) (tPlus 5)) (tC V.non)))))
      (tAsg (tOp rCat (tVar 6) (tCallG spLSum [] (fun x => E0) (tCons (tDGet (tVar 0) (tTup (tCons (tOp rIxS (tVar 1) (tVar 4)) (tCons (tOp rIxS (tVar 2) (tVar 5)) tNil)))) (tCons (tOp (rIxL K) (tOp (rIxL K) (tVar 3) (tPlus 4)) (tPlus 5)) tNil)))) (gName 6)) tNext D (rSl d F a b x y (some (.ref l)) o7) H := by
  refine less_ok rfl rfl en.la ?_
  by_cases hx : x < a.length
  · rw [decide_eq_true hx]
    refine iteT (less_ok rfl rfl en.lb ?_)
    by_cases hy : y < b.length
    · rw [decide_eq_true hy]
      obtain ⟨c1, h1, g1⟩ := ltr_at hx
      obtain ⟨c2, h2, g2⟩ := ltr_at hy
      rw [Dk.pB_some g1 g2] at q
      refine iteT (cell_ok rfl en.st hx hy (fun Q h => plus_ok rfl h) (fun Q h => plus_ok rfl h) ⟨rfl, _, rfl, ?_⟩)
      rw [oV_non]
      have sx := sym_at en.oa h1
      have sy := sym_at en.ob h2
      cases ec : R (x + 1) (y + 1) with
      | none =>
        rw [ec] at q
        have e0 : csum (wgt cs p ⟨#[c1]⟩ ⟨#[c2]⟩) none = none := by cases wgt cs p ⟨#[c1]⟩ ⟨#[c2]⟩ <;> rfl
        rw [e0] at q
        refine iteF (q l H (Same.refl H) ?_)
        show _ = some (HO.lst ((L ++ []).map V.int))
        rw [List.append_nil]
        exact hl
      | some v =>
        refine iteT (sum_ok rfl hl (by omega) (u := wgt cs p ⟨#[c1]⟩ ⟨#[c2]⟩) (v := R (x + 1) (y + 1)) (fun Q h => pair_ok rfl en.hd sx sy (fun Q h => chr_ok rfl rfl en.la h1 h) (fun Q h => chr_ok rfl rfl en.lb h2 h) (fun H' s' => ?_)) (fun H' s' Q h => cell_ok rfl (en.st.same s') hx hy (fun Q h => plus_ok rfl h) (fun Q h => plus_ok rfl h) h) fun pp H' s' hp => q pp H' s' hp)
        have := h H' s'
        rw [wgt_of sx sy (fun z => one_eps c1 z.1)] at this
        exact this
    · rw [decide_eq_false hy]
      rw [Dk.pB_none (.inr (by rw [ltr_len]; omega)), List.append_nil] at q
      exact iteF (iteF (q l H (Same.refl H) hl))
  · rw [decide_eq_false hx]
    rw [Dk.pB_none (.inl (by rw [ltr_len]; omega)), List.append_nil] at q
    exact iteF (iteF (q l H (Same.refl H) hl))
theorem s3_ok {L : List Int} (en : REnv G d F a b cs p rs R H) (lx : x ≤ a.length) (ly : y ≤ b.length) (hl : H l = some (.lst (L.map V.int))) (ll : L.length ≤ 9)
    (q : ∀ l H', Same H H' → H' l = some (.lst ((L ++ Dk.pC (wgt cs p) eps (ltr a) R x y).map V.int)) → D.nx (rSl d F a b x y (some (.ref l)) o7) H') :
    tIfS (tLess 4 1)
      (tAsg (tOp rCat (tVar 6) (tCallG spLSum [] (fun x => E0) (tCons (tDGet (tVar 0) (tTup (tCons (tOp rIxS (tVar 1) (tVar 4)) (tCons (tC (V.str (Str.ofString ""))) tNil)))) (tCons (tOp (rIxL K) (tOp (rIxL K) (tVar 3) (tPlus 4)) (tVar 5)) tNil)))) (gName 6)) tNext D (rSl d F a b x y (some (.ref l)) o7) H := by
  refine less_ok rfl rfl en.la ?_
  by_cases hx : x < a.length
  · rw [decide_eq_true hx]
    obtain ⟨c1, h1, g1⟩ := ltr_at hx
    rw [Dk.pC_some g1] at q
    have sx := sym_at en.oa h1
    refine iteT (sum_ok rfl hl (by omega) (u := wgt cs p ⟨#[c1]⟩ eps) (v := R (x + 1) y) (fun Q h => pair_ok rfl en.hd sx List.mem_cons_self (fun Q h => chr_ok rfl rfl en.la h1 h) (fun Q h => h) (fun H' s' => ?_)) (fun H' s' Q h => cell_ok rfl (en.st.same s') hx ly (fun Q h => plus_ok rfl h) (fun Q h => ⟨_, rfl, h⟩) h) fun pp H' s' hp => q pp H' s' hp)
    have := h H' s'
    rw [wgt_of (y := eps) sx List.mem_cons_self (fun z => one_eps c1 z.1)] at this
    exact this
  · rw [decide_eq_false hx]
    rw [Dk.pC_none (by rw [ltr_len]; omega), List.append_nil] at q
    exact iteF (q l H (Same.refl H) hl)
theorem s4_ok {L : List Int} (en : REnv G d F a b cs p rs R H) (lx : x ≤ a.length) (ly : y ≤ b.length) (hl : H l = some (.lst (L.map V.int))) (ll : L.length ≤ 9)
    (q : ∀ l H', Same H H' → H' l = some (.lst ((L ++ Dk.pE (wgt cs p) eps (ltr b) R x y).map V.int)) → D.nx (rSl d F a b x y (some (.ref l)) o7) H') :
    tIfS (tLess 5 2)
      (tAsg (tOp rCat (tVar 6) (tCallG spLSum [] (fun x => E0) (tCons (tDGet (tVar 0) (tTup (tCons (tC (V.str (Str.ofString ""))) (tCons (tOp rIxS (tVar 2) (tVar 5)) tNil)))) (tCons (tOp (rIxL K) (tOp (rIxL K) (tVar 3) (tVar 4)) (tPlus 5)) tNil)))) (gName 6)) tNext D (rSl d F a b x y (some (.ref l)) o7) H := by
  refine less_ok rfl rfl en.lb ?_
  by_cases hy : y < b.length
  · rw [decide_eq_true hy]
    obtain ⟨c2, h2, g2⟩ := ltr_at hy
    rw [Dk.pE_some g2] at q
    have sy := sym_at en.ob h2
    refine iteT (sum_ok rfl hl (by omega) (u := wgt cs p eps ⟨#[c2]⟩) (v := R x (y + 1)) (fun Q h => pair_ok rfl en.hd List.mem_cons_self sy (fun Q h => h) (fun Q h => chr_ok rfl rfl en.lb h2 h) (fun H' s' => ?_)) (fun H' s' Q h => cell_ok rfl (en.st.same s') lx hy (fun Q h => ⟨_, rfl, h⟩) (fun Q h => plus_ok rfl h) h) fun pp H' s' hp => q pp H' s' hp)
    have := h H' s'
    rw [wgt_of (x := eps) List.mem_cons_self sy (fun z => one_eps c2 z.2)] at this
    exact this
  · rw [decide_eq_false hy]
    rw [Dk.pE_none (by rw [ltr_len]; omega), List.append_nil] at q
    exact iteF (q l H (Same.refl H) hl)
end
end KC

namespace KC
open PySem L2 Gd Fw KM
theorem ints_nil {K : PySem.W.Frag} {H : Hp} {D D2 : Addr} {ns : List Int} (h1 : H D = some (.lst (ns.map V.int))) (h2 : H D2 = some (.lst [])) {Q : VK} (q : Q (.bl (!ns.isEmpty)) H) : rNeD K (.ref D) (.ref D2) H Q := by
  have dp : ∀ l : List Int, DpAll K H (l.map V.int) (l.map PyData.int) := by
    intro l
    induction l with
    | nil => exact .nil
    | cons c l ih => exact .cons (.int _) ih
  have shp : SeqAt.shaped (.list (ns.map PyData.int)) = true := by
    have r1 : ∀ l : List Int, PyData.canLayAll0 (l.map PyData.int) = true ∧ PyData.depthAll (l.map PyData.int) = 0 := by
      intro l
      induction l with
      | nil => exact ⟨by simp [PyData.canLayAll0], rfl⟩
      | cons c l ih =>
        refine ⟨by simp [PyData.canLayAll0, PyData.canLay0, ih.1], ?_⟩
        show max 0 (PyData.depthAll (l.map PyData.int)) = 0
        rw [ih.2]
        rfl
    obtain ⟨a, b⟩ := r1 ns
    unfold SeqAt.shaped
    rw [Bool.and_eq_true]
    refine ⟨by simp [PyData.canLay0, a], decide_eq_true ?_⟩
    show PyData.depthAll (ns.map PyData.int) + 1 ≤ 64
    rw [b]
    decide
  refine ⟨.list (ns.map PyData.int), .list [], .lst (SqL.of h1) (dp ns), .lst (SqL.of h2) .nil, shp, by decide, ?_⟩
  have eqv : PyData.eqv (.list (ns.map PyData.int)) (.list []) = ns.isEmpty := by
    cases ns <;> rfl
  rw [eqv]
  exact q
section
variable {K : PySem.W.Frag} {G H : Hp} {d F l : Addr} {a b : Str} {cs : List Nat} {p : Fn Str} {rs : List Addr} {R : Nat → Nat → Co} {x y : Nat} {o6 o7 : Option V} {D : Ends}
theorem s5_ok {L : List Int} (en : REnv G d F a b cs p rs R H) (lx : x ≤ a.length) (ly : y ≤ b.length) (hl : H l = some (.lst (L.map V.int))) (eL : L = Dk.opts (wgt cs p) eps (ltr a) (ltr b) R x y)
    (q : ∀ v H', REnv G d F a b cs p rs (Dk.up2 R x y v) H' → Dk.Loc (wgt cs p) eps (ltr a) (ltr b) (Dk.up2 R x y v) x y → D.nx (rSl d F a b x y (some (.ref l)) o7) H') :
    tAsg (tIf (tTest (tOp (rNeD K) (tVar 6) (tLst tNil))) (tCB (rMin K) (tCons (tVar 6) tNil)) (tC V.non)) (gSub (tOp (rIxL K) (tVar 3) (tVar 4)) (tVar 5) rSetL) D (rSl d F a b x y (some (.ref l)) o7) H := by
  have done : ∀ v : Co, ∀ H', Same H H' → ((∀ u ∈ L, Le v (some u)) ∧ ∀ u, v = some u → u ∈ L) → gSub (tOp (rIxL K) (tVar 3) (tVar 4)) (tVar 5) rSetL (oV v) (rSl d F a b x y (some (.ref l)) o7) H' D.nx := fun v H' s' hv => by
    have en' := en.same s'
    obtain ⟨r, hr, hm⟩ := en'.st.mx.row lx
    refine ⟨_, rfl, _, rfl, F, _, _, _, rfl, rfl, SqL.of en'.st.mx.hF, atI_nat (by rw [List.getElem?_map, hr]; rfl), _, rfl, r, _, _, y, rfl, rfl, hm, ixN_nat (by rw [mRow_len]; omega), ?_⟩
    have st := en'.st.put (v := v) (j := y) hr
    refine q v _ ⟨en.al, en.oa, en.ob, en.la, en.lb, ?_, st⟩ ?_
    · obtain ⟨kvs, h1, h2⟩ := en'.hd
      refine ⟨kvs, ?_, h2⟩
      rw [upd_ne (fun z => by rw [z, hm] at h1; exact nomatch h1)]
      exact h1
    · unfold Dk.Loc
      rw [Dk.opts_up (.inr ⟨rfl, Nat.le_refl _⟩), Dk.up2_same, ← eL]
      exact hv
  refine ⟨_, rfl, by show 0 ≤ sizeLine; decide, fun e he => ?_⟩
  have se := same_new (o := .lst []) he
  refine ints_nil (se _ _ hl) upd_same ⟨_, rfl, ?_⟩
  cases L with
  | nil => exact iteF (done none _ se ⟨fun u h => (nomatch h), fun u h => nomatch h⟩)
  | cons i L =>
    refine iteT ⟨_, rfl, l, i :: L, rfl, SqL.of (se _ _ hl), Nat.succ_pos _, fun m hm hy => ?_⟩
    refine done (some m) _ se ⟨fun u hu => le_some (hy u hu), fun u e => ?_⟩
    cases e
    exact hm
end
section
variable {P : Program} {w : World} {K : PySem.W.Frag} {mg : Str → Option Value} {base : Heap}
abbrev s_law_sum : Stmt := top 54
theorem sc_law_sum : FnScope ["_law_one", "_law_other"] ["_law_one", "_law_other"] (defScope s_law_sum) := ⟨rfl, rfl, rfl, by decide +kernel, rfl, by decide +kernel, by decide +kernel⟩
theorem ok_lsum {f : Addr} {fd : FuncData} (F : Fun K "_law_sum" "_law_sum" s_law_sum f fd) : FnG P w K mg base CX0 1 f fd ["_law_one", "_law_other"] spLSum := by
  refine okG F sc_law_sum (fun vs H Q E h => ?_) (fun cdv A outer s0 H vs Q E hc hr h => ?_)
  · obtain ⟨a, b, rfl, _⟩ := h
    rfl
  obtain ⟨a, b, rfl, q⟩ := h
  refine ⟨_, (pss_one (ps_ret (pe_ifExp (PW.pt (pw_or (pt_cmpR op_isN (pv 0) pe_non (nomark _)) (pw_or1 (pt_cmpR op_isN (pv 1) pe_non (nomark _))))) (pe_lst pa_nil) (pe_lst (pa_cons (pe_op op_add (pv 0) (pv 1)) pa_nil))))), ?_⟩
  refine ⟨_, rfl, rfl, _, rfl, ?_⟩
  match a, b, q with
  | none, b, q => exact iteT (iteT ⟨by show 0 ≤ sizeLine; decide, fun l hl => q l hl⟩)
  | some i, none, q =>
    refine iteF ⟨_, rfl, rfl, _, rfl, ?_⟩
    exact iteT ⟨by show 0 ≤ sizeLine; decide, fun l hl => q l hl⟩
  | some i, some j, q =>
    refine iteF ⟨_, rfl, rfl, _, rfl, ?_⟩
    exact iteF ⟨_, rfl, _, rfl, _, _, rfl, rfl, by show 1 ≤ sizeLine; decide, fun l hl => q l hl⟩
abbrev s_law_rest : Stmt := top 53
theorem sc_law_rest : FnScope ["_law_costs_here", "_law_one", "_law_other", "_law_found", "_law_i", "_law_j", "_law_some", "_law_place"] ["_law_costs_here", "_law_one", "_law_other"] (defScope s_law_rest) := ⟨rfl, rfl, rfl, by decide +kernel, rfl, by decide +kernel, by decide +kernel⟩
theorem ok_rest {f f1 : Addr} {fd fd1 : FuncData} (F : Fun K "_law_rest" "_law_rest" s_law_rest f fd) (T : Txt mg base)
    (D__law_sum : Df P w K mg base CX0 1 "_law_sum" f1 fd1 ["_law_one", "_law_other"] spLSum) : FnG P w K mg base CX0 2 f fd ["_law_costs_here", "_law_one", "_law_other"] spRest := by
  refine okG F sc_law_rest (fun vs H Q E h => ?_) (fun cdv A outer s0 H vs Q E hc hr h => ?_)
  · obtain ⟨d, a, b, cs, p, rfl, _⟩ := h
    rfl
  obtain ⟨d, a, b, cs, p, rfl, al, hd, oa, ob, la, lb, q⟩ := h
  refine ⟨_, (pss_cons (ps_setLc (i := 3) (own := [("_law_place", 7)]) (g := gName 7) rfl sc_law_rest.nd rfl rfl (sw_true rfl rfl rfl (by decide +kernel)) (pi_range1 rfl T.z_range (pa_cons (pe_op op_add (pe_callB call_len_str (by rfl) T.z_len (by decide +kernel) (pa_cons (pv 1) pa_nil)) pe_int) pa_nil)) (blkOk_by (N := ["_law_costs_here", "_law_one", "_law_other", "_law_found", "_law_i", "_law_j", "_law_some", "_law_place"]) (sc := defScope s_law_rest) (by decide +kernel)) (fun _ _ _ _ _ => pg_name (i := 7) sc_law_rest.nd rfl (Or.inl rfl)) (fun _ _ _ _ _ => pts_nil) (fun _ _ _ _ _ => (pe_op op_rep (pe_lst (pa_cons pe_non pa_nil)) (pe_op op_add (pe_callB call_len_str (by rfl) T.z_len (by decide +kernel) (pa_cons (pv 2) pa_nil)) pe_int))))
 (pss_cons (ps_for (passes_of rfl) rfl (pi_revR (by rfl) T.z_reversed (prg_1 (by rfl) T.z_range (pe_op op_add (pe_callB call_len_str (by rfl) T.z_len (by decide +kernel) (pa_cons (pv 1) pa_nil)) pe_int))) (pg_name (i := 4) sc_law_rest.nd rfl (Or.inl rfl))
  (pss_one (ps_for (passes_of rfl) rfl (pi_revR (by rfl) T.z_reversed (prg_1 (by rfl) T.z_range (pe_op op_add (pe_callB call_len_str (by rfl) T.z_len (by decide +kernel) (pa_cons (pv 2) pa_nil)) pe_int))) (pg_name (i := 5) sc_law_rest.nd rfl (Or.inl rfl))
  (pss_cons (ps_set (i := 6) sc_law_rest.nd rfl (Or.inl rfl) (pe_ifExp (PW.pt (pw_and (pt_cmpR op_eq (pv 4) (pe_callB call_len_str (by rfl) T.z_len (by decide +kernel) (pa_cons (pv 1) pa_nil)) (nomark _)) (pw_and1 (pt_cmpR op_eq (pv 5) (pe_callB call_len_str (by rfl) T.z_len (by decide +kernel) (pa_cons (pv 2) pa_nil)) (nomark _))))) (pe_lst (pa_cons pe_int pa_nil)) (pe_lst pa_nil)))
 (pss_cons (ps_if (PW.pt (pw_and (pt_cmpR op_lt (pv 4) (pe_callB call_len_str (by rfl) T.z_len (by decide +kernel) (pa_cons (pv 1) pa_nil)) (nomark _)) (pw_and (pt_cmpR op_lt (pv 5) (pe_callB call_len_str (by rfl) T.z_len (by decide +kernel) (pa_cons (pv 2) pa_nil)) (nomark _)) (pw_and1 (pt_cmpR op_notN (pe_ix ix_list (pe_ix ix_list (pv 3) (pe_op op_add (pv 4) pe_int) (fun _ _ => rfl)) (pe_op op_add (pv 5) pe_int) (fun _ _ => rfl)) pe_non (nomark _))))))
  (pss_one (ps_set (i := 6) sc_law_rest.nd rfl (Or.inl rfl) (pe_op op_cat (pv 6) (pe_d D__law_sum hc (hr.mono (by omega)) (by rfl) (fun _ => passN) (pa_cons (pe_dget (hu_of hr) (pv 0) (pe_tup (pa_cons (pe_ix ix_str (pv 1) (pv 4) (fun _ _ => rfl)) (pa_cons (pe_ix ix_str (pv 2) (pv 5) (fun _ _ => rfl)) pa_nil))) (fun _ _ => rfl)) (pa_cons (pe_ix ix_list (pe_ix ix_list (pv 3) (pe_op op_add (pv 4) pe_int) (fun _ _ => rfl)) (pe_op op_add (pv 5) pe_int) (fun _ _ => rfl)) pa_nil)))))) pss_nil)
 (pss_cons (ps_if (pt_cmpR op_lt (pv 4) (pe_callB call_len_str (by rfl) T.z_len (by decide +kernel) (pa_cons (pv 1) pa_nil)) (nomark _))
  (pss_one (ps_set (i := 6) sc_law_rest.nd rfl (Or.inl rfl) (pe_op op_cat (pv 6) (pe_d D__law_sum hc (hr.mono (by omega)) (by rfl) (fun _ => passN) (pa_cons (pe_dget (hu_of hr) (pv 0) (pe_tup (pa_cons (pe_ix ix_str (pv 1) (pv 4) (fun _ _ => rfl)) (pa_cons pe_str pa_nil))) (fun _ _ => rfl)) (pa_cons (pe_ix ix_list (pe_ix ix_list (pv 3) (pe_op op_add (pv 4) pe_int) (fun _ _ => rfl)) (pv 5) (fun _ _ => rfl)) pa_nil)))))) pss_nil)
 (pss_cons (ps_if (pt_cmpR op_lt (pv 5) (pe_callB call_len_str (by rfl) T.z_len (by decide +kernel) (pa_cons (pv 2) pa_nil)) (nomark _))
  (pss_one (ps_set (i := 6) sc_law_rest.nd rfl (Or.inl rfl) (pe_op op_cat (pv 6) (pe_d D__law_sum hc (hr.mono (by omega)) (by rfl) (fun _ => passN) (pa_cons (pe_dget (hu_of hr) (pv 0) (pe_tup (pa_cons pe_str (pa_cons (pe_ix ix_str (pv 2) (pv 5) (fun _ _ => rfl)) pa_nil))) (fun _ _ => rfl)) (pa_cons (pe_ix ix_list (pe_ix ix_list (pv 3) (pv 4) (fun _ _ => rfl)) (pe_op op_add (pv 5) pe_int) (fun _ _ => rfl)) pa_nil)))))) pss_nil)
 (pss_one (ps_asg (pe_ifExp (pt_cmpR (op_neD hr.units) (pv 6) (pe_lst pa_nil) (nomark _)) (pe_callB (cr_min rfl) (by rfl) T.z_min (by decide +kernel) (pa_cons (pv 6) pa_nil)) pe_non) (pg_sub (pe_ix ix_list (pv 3) (pv 4) (fun _ _ => rfl)) (pv 5) set_list))))))))))
 (pss_one (ps_ret (pv 3))))), ?_⟩
  have sz := sizeLine_eq
  refine ⟨_, rfl, a, rfl, by omega, _, _, rfl, rfl, _, rfl, by omega, by omega, fun F hF => ?_⟩
  have la' : (((a.length : Int) + 1).toNat) = a.length + 1 := by omega
  rw [la']
  refine walk_W (n := a.length + 1) (L2.walk_range) (fun i H' => ∃ rs, rs.length = i ∧ NwR H H' F rs (b.length + 1)) ⟨[], rfl, same_new hF, upd_same, List.nodup_cons.mpr ⟨List.not_mem_nil, List.nodup_nil⟩, fun a ha => by rw [List.mem_singleton.mp ha]; exact hF, fun a ha => nomatch ha⟩ (fun i H' _ pv => trivial) ?_ ?_
  · rintro i v H1 _ lti ⟨rs, el, nw⟩ ⟨rfl, rfl⟩
    rename_i H1
    refine ⟨rfl, yes_go ⟨by show 1 ≤ sizeLine; decide, fun l hl => ?_⟩⟩
    have sl := same_new (o := .lst [V.non]) hl
    refine ⟨_, rfl, b, rfl, by omega, _, _, rfl, rfl, l, _, [.non], rfl, rfl, upd_same, by omega, by omega, ?_, fun p hp => ?_⟩
    · rw [List.length_singleton]
      omega
    · have sp := same_new (o := .lst (List.replicate ((b.length : Int) + 1).toNat [V.non]).flatten) hp
      refine ⟨_, sp _ _ (sl _ _ nw.hD), by rw [List.length_map, el]; omega, rs ++ [p], by rw [List.length_append, el]; rfl, nw.add (fun b o hb => sp _ _ (sl _ _ hb)) (same_free sl hp) ?_⟩
      rw [upd_same, flat_one']
      congr 3
  rintro H1 ⟨rs, el, nw⟩
  have mx0 : MSt H F rs a.length b.length (fun _ _ => none) H1 := ⟨nw.sm, nw.nd, nw.fr, nw.hD, el, fun i r hi => by rw [nw.at_ r (List.mem_of_getElem? hi), rep_row]; rfl⟩
  have en0 : REnv H d F a b cs p rs (fun _ _ => none) H1 := ⟨al, oa, ob, la, lb, hd.same nw.sm, mx0⟩
  clear hd hF
  refine ⟨_, rfl, a, rfl, by omega, _, _, rfl, rfl, _, rfl, by omega, by omega, by omega, by omega, ?_⟩
  have e1 : ((0 : Int) + (((a.length : Int) + 1 - 0).toNat : Nat) - 1) = (a.length : Nat) := by omega
  have e1' : ((a.length : Int) + 1 - 0).toNat = a.length + 1 := by omega
  rw [e1, e1']
  refine L2.for_it (L2.walk_rangeC) (fun i σ H' => (∃ o4 o5 o6 o7 : Option V, σ = [some (.ref d), some (.str a), some (.str b), some (.ref F), o4, o5, o6, o7]) ∧ ∃ R, REnv H d F a b cs p rs R H' ∧ ∀ x y, a.length < x + i → x ≤ a.length → y ≤ b.length → Dk.Loc (wgt cs p) eps (ltr a) (ltr b) R x y) ⟨⟨_, _, _, _, rfl⟩, _, en0, fun x y h1 h2 => by omega⟩ (fun _ _ _ _ _ => trivial) ?_ ?_
  · rintro i v σ H2 _ lti ⟨⟨o4, o5, o6, o7, rfl⟩, R, en, loc⟩ ⟨rfl, rfl⟩
    rename_i H2
    obtain ⟨x, hx⟩ : ∃ x, x + i = a.length := ⟨a.length - i, by omega⟩
    have ex : (((a.length : Nat) : Int) + (i : Nat) * (-1)) = (x : Nat) := by omega
    show gName 4 (V.int (((a.length : Nat) : Int) + (i : Nat) * (-1))) _ _ _
    rw [ex]
    refine ⟨_, rfl, b, rfl, by omega, _, _, rfl, rfl, _, rfl, by omega, by omega, by omega, by omega, ?_⟩
    have e2 : ((0 : Int) + (((b.length : Int) + 1 - 0).toNat : Nat) - 1) = (b.length : Nat) := by omega
    have e2' : ((b.length : Int) + 1 - 0).toNat = b.length + 1 := by omega
    rw [e2, e2']
    refine L2.for_it (L2.walk_rangeC) (fun j σ H' => (∃ o5 o6 o7 : Option V, σ = [some (.ref d), some (.str a), some (.str b), some (.ref F), some (.int (x : Nat)), o5, o6, o7]) ∧ ∃ R, REnv H d F a b cs p rs R H' ∧ ∀ u y, (a.length < u + i ∨ (u = x ∧ b.length < y + j)) → u ≤ a.length → y ≤ b.length → Dk.Loc (wgt cs p) eps (ltr a) (ltr b) R u y)
      ⟨⟨_, _, _, rfl⟩, R, en, fun u y h h1 h2 => loc u y (by omega) h1 h2⟩ (fun _ _ _ _ _ => trivial) ?_ ?_
    · clear loc en R o4 o5 o6 o7
      rintro j v σ H3 _ ltj ⟨⟨o5, o6, o7, rfl⟩, R, en, loc⟩ ⟨rfl, rfl⟩
      rename_i H3
      obtain ⟨y, hy⟩ : ∃ y, y + j = b.length := ⟨b.length - j, by omega⟩
      have ey : (((b.length : Nat) : Int) + (j : Nat) * (-1)) = (y : Nat) := by omega
      show gName 5 (V.int (((b.length : Nat) : Int) + (j : Nat) * (-1))) _ _ _
      rw [ey]
      have lx : x ≤ a.length := by omega
      have ly : y ≤ b.length := by omega
      have A1 : (Dk.pA (ltr a) (ltr b) x y).length ≤ 1 := by
        unfold Dk.pA
        split <;> decide
      have A2 : (Dk.pB (wgt cs p) (ltr a) (ltr b) R x y).length ≤ 1 := by
        unfold Dk.pB
        split
        · exact Dk.o1_len _
        · decide
      have A3 : (Dk.pC (wgt cs p) eps (ltr a) R x y).length ≤ 1 := by
        unfold Dk.pC
        split
        · exact Dk.o1_len _
        · decide
      refine s1_ok en fun l1 H4 s4 h4 => ?_
      have en := en.same s4
      refine s2_ok en lx ly h4 (by omega) fun l2 H5 s5 h5 => ?_
      have en := en.same s5
      refine s3_ok en lx ly h5 (by rw [List.length_append]; omega) fun l3 H6 s6 h6 => ?_
      have en := en.same s6
      refine s4_ok en lx ly h6 (by rw [List.length_append, List.length_append]; omega) fun l4 H7 s7 h7 => ?_
      have en := en.same s7
      refine s5_ok en lx ly h7 (by unfold Dk.opts; rw [List.append_assoc, List.append_assoc]) fun v H8 en8 loc8 => ⟨⟨_, _, _, rfl⟩, _, en8, fun u z h hu hz => ?_⟩
      by_cases e : u = x ∧ z = y
      · rw [e.1, e.2]
        exact loc8
      · exact Dk.loc_up (by omega) (loc u z (by omega) hu hz)
    · rintro σ H3 ⟨⟨o5, o6, o7, rfl⟩, R, en, loc⟩
      exact ⟨⟨_, _, _, _, rfl⟩, R, en, fun u y h hu hy => loc u y (by omega) hu hy⟩
  · rintro σ H2 ⟨⟨o4, o5, o6, o7, rfl⟩, R, en, loc⟩
    exact ⟨_, rfl, q _ _ R en.st.sm ⟨F, rs, rfl, en.st.mx⟩ fun i j hi hj => loc i j (by omega) hi hj⟩
end
end KC

namespace KC
open PySem L2 Gd Fw KM
theorem join_chars (cs : List Nat) : (Txt.join "" (cs.map fun c => (⟨#[c]⟩ : Str))).cps.toList = cs := by
  rw [join0_list]
  induction cs with
  | nil => rfl
  | cons c cs ih =>
    rw [List.map_cons, List.map_cons, List.flatten_cons, ih]
    rfl
theorem sum_chars (cs : List Nat) : ((cs.map fun c => (⟨#[c]⟩ : Str)).map fun x => x.length).sum = cs.length := by
  induction cs with
  | nil => rfl
  | cons c cs ih =>
    rw [List.map_cons, List.map_cons, List.sum_cons, ih, List.length_cons]
    show 1 + _ = _
    omega
def spLText : Sp := fun vs H Q _ => ∃ (p : Addr) (L : Str) (m : Int), vs = [.ref p, .str L, .int m] ∧ BoxAt H p ∧ Lets L ∧ 2 ≤ m ∧ m ≤ 100 ∧ ∀ (t : Str) H', Kept H H' p → Ov (cod L) t → (t.length : Int) ≤ m → Q (.str t) H'
section
variable {P : Program} {w : World} {K : PySem.W.Frag} {mg : Str → Option Value} {base : Heap}
abbrev s_law_text : Stmt := top 52
theorem sc_law_text : FnScope ["_law_box_here", "_law_letters", "_law_most", "_law_size", "_law_k"] ["_law_box_here", "_law_letters", "_law_most"] (defScope s_law_text) := ⟨rfl, rfl, rfl, by decide +kernel, rfl, by decide +kernel, by decide +kernel⟩
theorem ok_ltext {f f1 : Addr} {fd fd1 : FuncData} (F : Fun K "_law_text" "_law_text" s_law_text f fd) (T : Txt mg base)
    (D__law_take : Df P w K mg base CX0 1 "_law_take" f1 fd1 ["_law_box_here", "_law_size"] spTake) : FnG P w K mg base CX0 2 f fd ["_law_box_here", "_law_letters", "_law_most"] spLText := by
  refine okG F sc_law_text (fun vs H Q E h => ?_) (fun cdv A outer s H vs Q E hc hr h => ?_)
  · obtain ⟨p, L, m, rfl, _⟩ := h
    rfl
  obtain ⟨p, L, m, rfl, hb, al, m2, m100, q⟩ := h
  refine ⟨_, (pss_cons (ps_set (i := 3) sc_law_text.nd rfl (Or.inl rfl) (pe_ix ix_list (pe_lst (pa_cons pe_int (pa_cons pe_int (pa_cons pe_int (pa_cons (pe_op op_add pe_int (pe_d D__law_take hc (hr.mono (by omega)) (by rfl) (fun _ => passN) (pa_cons (pv 0) (pa_cons (pv 2) pa_nil)))) pa_nil))))) (pe_d D__law_take hc (hr.mono (by omega)) (by rfl) (fun _ => passN) (pa_cons (pv 0) (pa_cons pe_int pa_nil))) (fun _ _ => rfl)))
 (pss_one (ps_ret (pe_join pe_str (pe_lc (own := [("_law_k", 4)]) (g := gName 4) rfl sc_law_text.nd (pi_range1 rfl T.z_range (pa_cons (pv 3) pa_nil)) (blkOk_by (N := ["_law_box_here", "_law_letters", "_law_most", "_law_size", "_law_k"]) (sc := defScope s_law_text) (by decide +kernel)) (fun _ _ _ _ _ => pg_name (i := 4) sc_law_text.nd rfl (Or.inl rfl)) (fun _ _ _ _ _ => pts_nil) (fun _ _ _ _ _ => (pe_ix ix_str (pv 1) (pe_d D__law_take hc (hr.mono (by omega)) (by rfl) (fun _ => passN) (pa_cons (pv 0) (pa_cons (pe_callB call_len_str (by rfl) T.z_len (by decide +kernel) (pa_cons (pv 1) pa_nil)) pa_nil))) (fun _ _ => rfl)))))))), ?_⟩
  have sz := sizeLine_eq
  have ll := al.len
  have lp := al.pos
  refine ⟨_, rfl, _, rfl, p, m, rfl, hb, by omega, by omega, fun u H1 u0 u1 t1 => ?_⟩
  refine ⟨_, _, rfl, rfl, by show 4 ≤ sizeLine; decide, fun l hl => ?_⟩
  have nl : H l = none := t1.kept.free hb hl
  have k1 := ((Kept.refl hb).turn t1).put hb nl (o := .lst [V.int 0, V.int 1, V.int 2, V.int (1 + u)])
  have hl1 := upd_same (H := H1) (a := l) (o := .lst [V.int 0, V.int 1, V.int 2, V.int (1 + u)])
  refine ⟨_, rfl, p, 4, rfl, k1.box, by decide, by decide, fun e H2 e0 e1 t2 => ?_⟩
  have nlp : l ≠ p := Kept.ne hb nl
  obtain ⟨zv, hz, z, rfl, z0, z1⟩ := atI_all (l := [V.int 0, V.int 1, V.int 2, V.int (1 + u)]) (p := fun v => ∃ z : Int, v = .int z ∧ 0 ≤ z ∧ z ≤ m) (fun v hv => by
    simp only [List.mem_cons, List.not_mem_nil, or_false] at hv
    rcases hv with rfl | rfl | rfl | rfl
    · exact ⟨0, rfl, by omega, by omega⟩
    · exact ⟨1, rfl, by omega, by omega⟩
    · exact ⟨2, rfl, by omega, by omega⟩
    · exact ⟨1 + u, rfl, by omega, by omega⟩) e0 (by show e < 4; exact e1)
  refine ⟨l, _, _, _, rfl, rfl, SqL.of (t2.at nlp hl1), hz, ?_⟩
  have k2 := k1.turn t2
  refine ⟨⟨_, rfl⟩, _, rfl, z, rfl, by omega, by omega, fun D hD => ?_⟩
  have nD := k2.free hb hD
  have nDp : D ≠ p := Kept.ne hb nD
  have k3 := k2.put hb nD (o := .lst [])
  refine walk_W (L2.walk_range (lo := 0) (n := z.toNat)) (fun i H' => (∃ cs : List Nat, H' D = some (.lst ((cs.map fun c => (⟨#[c]⟩ : Str)).map V.str)) ∧ cs.length = i ∧ ∀ c ∈ cs, c ∈ cod L) ∧ Kept H H' p) ⟨⟨[], upd_same, rfl, fun x h => nomatch h⟩, k3⟩ (fun _ _ _ _ => trivial) ?_ ?_
  · rintro i y H3 _ lt ⟨⟨cs, hA2, lc, okc⟩, k4⟩ ⟨rfl, rfl⟩
    rename_i H3
    refine ⟨rfl, yes_go ?_⟩
    refine ⟨_, rfl, _, rfl, _, rfl, L, rfl, by omega, p, _, rfl, k4.box, by omega, by omega, fun e H4 e0 e1 t3 => ?_⟩
    obtain ⟨c, hc, mc⟩ := atI_all (l := L.cps.toList) (p := fun c => c ∈ L.cps.toList) (fun _ h => h) e0 (by rw [← len_list]; exact e1)
    refine ⟨L, e, c, rfl, rfl, by omega, hc, ?_⟩
    refine ⟨_, t3.at nDp hA2, by rw [List.length_map, List.length_map]; omega, ⟨cs ++ [c], ?_, ?_, fun x hx => ?_⟩, (k4.turn t3).put hb nD⟩
    · rw [upd_same, List.map_append, List.map_append]
      rfl
    · rw [List.length_append, List.length_singleton, lc]
    · rcases List.mem_append.mp hx with hx | hx
      · exact okc x hx
      · cases List.mem_singleton.mp hx
        exact cod_mem.mpr mc
  rintro H3 ⟨⟨cs, hA2, lc, okc⟩, k4⟩
  have el : (Txt.join "" (cs.map fun c => (⟨#[c]⟩ : Str))).length = cs.length := by rw [len_list, join_chars]
  refine ⟨_, D, _, rfl, rfl, .inl (SqL.of hA2), ?_, q _ _ k4 (fun c hc => ?_) ?_⟩
  · have e0 : (Str.ofString "").length = 0 := rfl
    rw [sum_chars, e0]
    omega
  · have hc : c ∈ (Txt.join "" (cs.map fun c => (⟨#[c]⟩ : Str))).cps.toList := hc
    rw [join_chars] at hc
    exact okc c hc
  · show ((Txt.join "" (cs.map fun c => (⟨#[c]⟩ : Str))).length : Int) ≤ m
    rw [el]
    omega
theorem ov_cut {cs : List Nat} {z : Str} {lo hi : Option Int} (o : Ov cs z) : Ov cs (cutS z lo hi) := fun c hc => by
  have hc : c ∈ ((z.cps.toList.drop (HT.sIx z.length 0 lo)).take (HT.sIx z.length z.length hi - HT.sIx z.length 0 lo)).toArray.toList := hc
  exact o c (List.mem_of_mem_drop (List.mem_of_mem_take (by simpa using hc)))
theorem ov_app {cs : List Nat} {x y : Str} (o : Ov cs x) (p : Ov cs y) : Ov cs (x ++ y) := fun c hc => by
  rw [app_list] at hc
  rcases List.mem_append.mp hc with h | h
  · exact o c h
  · exact p c h
theorem len_app (x y : Str) : (x ++ y).length = x.length + y.length := by
  rw [len_list, app_list, List.length_append, ← len_list, ← len_list]
def spOthers : Sp := fun vs H Q _ => ∃ (p : Addr) (L a : Str), vs = [.ref p, .str L, .str a] ∧ BoxAt H p ∧ Lets L ∧ Ov (cod L) a ∧ a.length ≤ 14 ∧ ∀ (t : Str) H', Kept H H' p → Ov (cod L) t → t.length ≤ 29 → Q (.str t) H'
abbrev s_law_others : Stmt := top 56
theorem sc_law_others : FnScope ["_law_box_here", "_law_letters", "_law_one", "_law_way", "_law_at"] ["_law_box_here", "_law_letters", "_law_one"] (defScope s_law_others) := ⟨rfl, rfl, rfl, by decide +kernel, rfl, by decide +kernel, by decide +kernel⟩
theorem ok_others {f f1 f2 : Addr} {fd fd1 fd2 : FuncData} (F : Fun K "_law_others" "_law_others" s_law_others f fd) (T : Txt mg base)
    (D__law_take : Df P w K mg base CX0 1 "_law_take" f1 fd1 ["_law_box_here", "_law_size"] spTake) (D__law_text : Df P w K mg base CX0 2 "_law_text" f2 fd2 ["_law_box_here", "_law_letters", "_law_most"] spLText) : FnG P w K mg base CX0 3 f fd ["_law_box_here", "_law_letters", "_law_one"] spOthers := by
  refine okG F sc_law_others (fun vs H Q E h => ?_) (fun cdv A outer s H vs Q E hc hr h => ?_)
  · obtain ⟨p, L, a, rfl, _⟩ := h
    rfl
  obtain ⟨p, L, a, rfl, hb, al, ov, la, q⟩ := h
  refine ⟨_, (pss_cons (ps_par (i := 3) (j := 4) (by rfl) sc_law_others.nd rfl rfl (by decide) rfl rfl (pa_cons (pe_d D__law_take hc (hr.mono (by omega)) (by rfl) (fun _ => passN) (pa_cons (pv 0) (pa_cons pe_int pa_nil))) (pa_cons (pe_d D__law_take hc (hr.mono (by omega)) (by rfl) (fun _ => passN) (pa_cons (pv 0) (pa_cons (pe_op op_add (pe_callB call_len_str (by rfl) T.z_len (by decide +kernel) (pa_cons (pv 2) pa_nil)) pe_int) pa_nil))) pa_nil)) (by rfl))
 (pss_cons (ps_if (pt_cmpR op_eq (pv 3) pe_int (nomark _))
  (pss_one (ps_ret (pv 2))) pss_nil)
 (pss_cons (ps_if (pt_cmpR op_eq (pv 3) pe_int (nomark _))
  (pss_one (ps_ret (pe_op op_add_str (pe_op op_add_str (pe_slice sl_str (pv 2) po_none (po_some (pv 4))) (pe_ix ix_str (pv 1) (pe_d D__law_take hc (hr.mono (by omega)) (by rfl) (fun _ => passN) (pa_cons (pv 0) (pa_cons (pe_callB call_len_str (by rfl) T.z_len (by decide +kernel) (pa_cons (pv 1) pa_nil)) pa_nil))) (fun _ _ => rfl))) (pe_slice sl_str (pv 2) (po_some (pe_op op_add (pv 4) (pe_d D__law_take hc (hr.mono (by omega)) (by rfl) (fun _ => passN) (pa_cons (pv 0) (pa_cons pe_int pa_nil))))) po_none)))) pss_nil)
 (pss_one (ps_ret (pe_ifExp (pt_cmpR op_eq (pv 3) pe_int (nomark _)) (pe_op op_add_str (pe_slice sl_str (pv 2) (po_some (pv 4)) po_none) (pe_slice sl_str (pv 2) po_none (po_some (pv 4)))) (pe_d D__law_text hc (hr.mono (by omega)) (by rfl) (fun _ => passN) (pa_cons (pv 0) (pa_cons (pv 1) (pa_cons pe_int pa_nil)))))))))), ?_⟩
  have sz := sizeLine_eq
  have ll := al.len
  have lp := al.pos
  refine ⟨_, rfl, p, 4, rfl, hb, by decide, by decide, fun w H1 w0 w1 t1 => ?_⟩
  refine ⟨_, rfl, _, rfl, a, rfl, by omega, _, _, rfl, rfl, p, _, rfl, t1.kept.box, by omega, by omega, fun u H2 u0 u1 t2 => ?_⟩
  have k2 := ((Kept.refl hb).turn t1).turn t2
  have cut1 := fun lo hi => cutS_length a lo hi
  refine ⟨_, _, rfl, _, rfl, rfl, _, rfl, ?_⟩
  refine iteB (fun _ => ⟨_, rfl, q a _ k2 ov (by omega)⟩) (fun _ => ?_)
  refine ⟨_, rfl, rfl, _, rfl, ?_⟩
  refine iteB (fun _ => ?_) (fun _ => ?_)
  · refine ⟨_, rfl, _, rfl, _, rfl, ⟨a, rfl, by omega, ?_⟩⟩
    refine ⟨_, rfl, _, rfl, _, rfl, L, rfl, by omega, p, _, rfl, k2.box, by omega, by omega, fun e H3 e0 e1 t3 => ?_⟩
    obtain ⟨c, hc, mc⟩ := atI_all (l := L.cps.toList) (p := fun c => c ∈ L.cps.toList) (fun _ h => h) e0 (by rw [← len_list]; exact e1)
    refine ⟨L, e, c, rfl, rfl, by omega, hc, _, _, rfl, rfl, ?_, ?_⟩
    · have := cut1 none (some u)
      show (cutS a none (some u)).length + 1 ≤ sizeLine
      omega
    have k3 := k2.turn t3
    refine ⟨_, rfl, _, rfl, _, rfl, p, 2, rfl, k3.box, by decide, by decide, fun d H4 d0 d1 t4 => ⟨_, _, rfl, rfl, _, rfl, a, rfl, by omega, ?_⟩⟩
    have c1 := cut1 none (some u)
    have c2 := cut1 (some (u + d)) none
    have oc : Ov (cod L) ⟨#[c]⟩ := fun c' h => by
      have h : c' ∈ [c] := h
      rw [List.mem_singleton.mp h]
      exact cod_mem.mpr mc
    have l1 : (cutS a none (some u) ++ (⟨#[c]⟩ : Str)).length ≤ 15 := by
      rw [len_app]
      show (cutS a none (some u)).length + 1 ≤ 15
      omega
    refine ⟨_, _, rfl, rfl, by omega, q _ _ (k3.turn t4) (ov_app (ov_app (ov_cut ov) oc) (ov_cut ov)) ?_⟩
    rw [len_app]
    omega
  · refine ⟨_, rfl, rfl, _, rfl, ?_⟩
    refine iteB (fun _ => ?_) (fun _ => ?_)
    · have c1 := cut1 none (some u)
      have c2 := cut1 (some u) none
      refine ⟨_, rfl, _, rfl, _, rfl, a, rfl, by omega, _, rfl, _, rfl, _, rfl, a, rfl, by omega, _, _, rfl, rfl, by omega, q _ _ k2 (ov_app (ov_cut ov) (ov_cut ov)) ?_⟩
      rw [len_app]
      omega
    · exact ⟨_, rfl, _, rfl, p, L, 14, rfl, k2.box, al, by decide, by decide, fun t H3 k3 o3 l3 => q t _ (k2.trans k3) o3 (by omega)⟩
end
end KC

namespace KC
open PySem L2 Gd Fw KM
theorem eqv_two (x y a b : Str) : PyData.eqv (.tuple [.str x, .str y]) (.tuple [.str a, .str b]) = decide (x = a ∧ y = b) := by
  have e : PyData.eqv (.tuple [.str x, .str y]) (.tuple [.str a, .str b]) = ((x == a) && ((y == b) && true)) := by simp [PyData.eqv, PyData.eqvAll]
  rw [e]
  by_cases h1 : x = a <;> by_cases h2 : y = b <;> simp [h1, h2]
theorem shp_two {x y : Str} (hx : Tx 1 x) (hy : Tx 1 y) : SeqAt.shaped (.tuple [.str x, .str y]) = true :=
  (sml_tup (n := 14) (m := 100) (ds := [.str x, .str y]) (fun d hd => by
    simp only [List.mem_cons, List.not_mem_nil, or_false] at hd
    rcases hd with rfl | rfl
    · exact sml_one hx
    · exact sml_one hy) (by show 2 * 14 + 5 ≤ 100; decide)).shp (by decide)
/-- a script over the symbols, and what it costs -/
structure ScrOk (cs : List Nat) (p : Fn Str) (l : List (Str × Str)) (c : Int) (wd : Str) : Prop where
  len : l.length ≤ 1000
  ok : ∀ q ∈ l, q.1 ∈ symL cs ∧ q.2 ∈ symL cs ∧ ¬ (q.1 = eps ∧ q.2 = eps)
  tot : ∃ ks : List Int, l.map (fun q => spn cs p q.1 q.2) = ks.map some ∧ ks.sum = c
  one : Txt.join "" (l.map fun q => q.1) = wd
def spScrR : Sp := fun vs H Q _ => ∃ (d D : Addr) (c : Int) (wd : Str) (cs : List Nat) (p : Fn Str) (us : List V) (l : List (Str × Str)), vs = [.ref d, .ref D, .int c, .str wd] ∧ Alp cs ∧ DFn H d (symL cs) (spn cs p) ∧ H D = some (.lst us) ∧ PrsAt H us l ∧ ScrOk cs p l c wd ∧ ∀ H', Same H H' → Q (.bl true) H'
section
variable {P : Program} {w : World} {K : PySem.W.Frag} {mg : Str → Option Value} {base : Heap}
abbrev s_law_script_right : Stmt := top 55
theorem sc_law_script_right : FnScope ["_law_costs_here", "_law_script", "_law_cost", "_law_word", "_law_pair"] ["_law_costs_here", "_law_script", "_law_cost", "_law_word"] (defScope s_law_script_right) := ⟨rfl, rfl, rfl, by decide +kernel, rfl, by decide +kernel, by decide +kernel⟩
theorem ok_scrr {f : Addr} {fd : FuncData} (F : Fun K "_law_script_right" "_law_script_right" s_law_script_right f fd) (T : Txt mg base) : FnG P w K mg base CX0 2 f fd ["_law_costs_here", "_law_script", "_law_cost", "_law_word"] spScrR := by
  refine okG F sc_law_script_right (fun vs H Q E h => ?_) (fun cdv A outer s H vs Q E hc hr h => ?_)
  · obtain ⟨d, D, c, wd, cs, p, us, l, rfl, _⟩ := h
    rfl
  obtain ⟨d, D, c, wd, cs, p, us, l, rfl, al, hd, hD, hp, ok, q⟩ := h
  refine ⟨_, (pss_cons (ps_if (PW.pt (pw_or (pt_not (pt_val (pe_callB call_isk (by rfl) T.z_isinstance (by decide +kernel) (pa_cons (pv 1) (pa_cons (pe_bltn (v := .ty "list") (by rfl) T.z_list (by decide +kernel) rfl) pa_nil))))) (pw_or1 (pt_cmpR op_ne (pe_join pe_str (pe_lc (own := [("_law_pair", 4)]) (g := gName 4) rfl sc_law_script_right.nd (pi_list (pv 1)) (blkOk_by (N := ["_law_costs_here", "_law_script", "_law_cost", "_law_word", "_law_pair"]) (sc := defScope s_law_script_right) (by decide +kernel)) (fun _ _ _ _ _ => pg_name (i := 4) sc_law_script_right.nd rfl (Or.inl rfl)) (fun _ _ _ _ _ => pts_nil) (fun _ _ _ _ _ => (pe_ix (ix_tupK (K := K) rfl) (pv 4) pe_int (fun _ _ => rfl))))) (pv 3) (nomark _)))))
  (pss_one (ps_ret pe_bl)) pss_nil)
 (pss_cons (ps_for (passes_of rfl) rfl (pi_list (pv 1)) (pg_name (i := 4) sc_law_script_right.nd rfl (Or.inl rfl))
  (pss_one (ps_if (PW.pt (pw_or (pt_not (pt_val (pe_callB call_isk (by rfl) T.z_isinstance (by decide +kernel) (pa_cons (pv 4) (pa_cons (pe_bltn (v := .ty "tuple") (by rfl) T.z_tuple (by decide +kernel) rfl) pa_nil))))) (pw_or (pt_cmpR op_ne (pe_callB call_len_seq (by rfl) T.z_len (by decide +kernel) (pa_cons (pv 4) pa_nil)) pe_int (nomark _)) (pw_or (pt_cmpR (op_eqD hr.units) (pv 4) (pe_tup (pa_cons pe_str (pa_cons pe_str pa_nil))) (nomark _)) (pw_or1 (pt_cmpR op_isN (pe_dget1 (hu_of hr) (pv 0) (pv 4) ⟨by rfl, by rfl, by rfl, by rfl⟩) pe_non (nomark _)))))))
  (pss_one (ps_ret pe_bl)) pss_nil)))
 (pss_one (ps_ret (pe_cmpR op_eq (pe_callB (cr_sum rfl) (by rfl) T.z_sum (by decide +kernel) (pa_cons (pe_lc (own := [("_law_pair", 4)]) (g := gName 4) rfl sc_law_script_right.nd (pi_list (pv 1)) (blkOk_by (N := ["_law_costs_here", "_law_script", "_law_cost", "_law_word", "_law_pair"]) (sc := defScope s_law_script_right) (by decide +kernel)) (fun _ _ _ _ _ => pg_name (i := 4) sc_law_script_right.nd rfl (Or.inl rfl)) (fun _ _ _ _ _ => pts_nil) (fun _ _ _ _ _ => (pe_dget (hu_of hr) (pv 0) (pv 4) (fun _ _ => rfl)))) pa_nil)) (pv 2) (nomark _)))))), ?_⟩
  have sz := sizeLine_eq
  have lu := hp.len
  have okl := ok.len
  have isl : inst "list" (kind H (.ref D)) = true := by
    show inst "list" (kindO (H D)) = true
    rw [hD]
    show inst "list" Gd.Kind.lst = true
    decide +kernel
  have pvD : Pv H (.ref D) := by
    show kindO (H D) ≠ .odd
    rw [hD]
    exact fun z => nomatch z
  have len1 : ∀ q ∈ l, q.1.length ≤ 1 := fun q hq => by
    rcases mem_sym.mp (ok.ok q hq).1 with h | ⟨c, _, h⟩
    · rw [h]
      exact Nat.zero_le _
    · rw [h]
      exact Nat.le_refl _
  refine ⟨_, rfl, .ref D, _, rfl, .inr (.inr (.inr (.inl rfl))), pvD, _, rfl, ?_⟩
  rw [isl]
  refine iteF ⟨⟨_, rfl⟩, _, rfl, D, rfl, ⟨_, SqL.of hD⟩, fun Z hZ => ?_⟩
  refine walk_W (L2.walk_list (xs := us)) (fun i H' => H' Z = some (.lst (((l.take i).map fun q => q.1).map V.str)) ∧ Same H H') ⟨upd_same, same_new hZ⟩ (fun i H' _ pv => SqL.of (pv.2 _ _ hD)) ?_ ?_
  · rintro i y H1 _ lt ⟨q1, s1⟩ ⟨rfl, hy⟩
    rename_i H1
    obtain ⟨t, x, z, rfl, ht, hl⟩ := hp.at hy
    refine ⟨rfl, yes_go ⟨_, rfl, t, _, _, _, rfl, rfl, SqT.of (s1 _ _ ht), atI_nat (j := 0) rfl, _, q1, ?_, ?_, fun b o hb => ?_⟩⟩
    · rw [List.length_map, List.length_map, List.length_take]
      omega
    · rw [upd_same, List.take_add_one, hl, List.map_append, List.map_append]
      rfl
    · rw [upd_ne (ne_of_none hb hZ)]
      exact s1 _ _ hb
  rintro H1 ⟨q1, s1⟩
  rw [lu, List.take_length] at q1
  have hs : ((l.map fun q => q.1).map fun x => x.length).sum ≤ l.length := by
    have : ∀ l : List (Str × Str), (∀ q ∈ l, q.1.length ≤ 1) → ((l.map fun q => q.1).map fun x => x.length).sum ≤ l.length := by
      intro l
      induction l with
      | nil => exact fun _ => Nat.le_refl _
      | cons q l ih =>
        intro h
        rw [List.map_cons, List.map_cons, List.sum_cons, List.length_cons]
        have a1 := h q List.mem_cons_self
        have a2 := ih fun z hz => h z (List.mem_cons_of_mem _ hz)
        omega
    exact this l len1
  refine ⟨_, Z, _, rfl, rfl, .inl (SqL.of q1), ?_, _, rfl, rfl, _, rfl, ?_⟩
  · have e0 : (Str.ofString "").length = 0 := rfl
    rw [e0]
    omega
  have ew : Txt.join (Str.ofString "") (l.map fun q => q.1) = wd := ok.one
  rw [ew, decide_eq_true rfl]
  refine iteF ?_
  refine ⟨_, rfl, D, rfl, ⟨_, SqL.of (s1 _ _ hD)⟩, ?_⟩
  refine L2.for_it (L2.walk_list (xs := us)) (fun i σ H' => (∃ o : Option V, σ = [some (.ref d), some (.ref D), some (.int c), some (.str wd), o]) ∧ Same H H') ⟨⟨_, rfl⟩, s1⟩ (fun i σ H' _ pv => SqL.of (pv.2 _ _ hD)) ?_ ?_
  · rintro i y σ H2 _ lt ⟨⟨o, rfl⟩, s2⟩ ⟨rfl, hy⟩
    rename_i H2
    obtain ⟨t, x, z, rfl, ht, hl⟩ := hp.at hy
    obtain ⟨mx, mz, ne⟩ := ok.ok _ (List.mem_of_getElem? hl)
    have ht2 := s2 _ _ ht
    have ist : inst "tuple" (kind H2 (.ref t)) = true := by
      show inst "tuple" (kindO (H2 t)) = true
      rw [ht2]
      show inst "tuple" Gd.Kind.tup = true
      decide +kernel
    have pvt : Pv H2 (.ref t) := by
      show kindO (H2 t) ≠ .odd
      rw [ht2]
      exact fun z => nomatch z
    refine ⟨_, rfl, .ref t, _, rfl, .inr (.inr (.inr (.inr (.inl rfl)))), pvt, _, rfl, ?_⟩
    rw [ist]
    refine iteF ⟨_, rfl, t, _, rfl, .inr (SqT.of ht2), rfl, _, rfl, iteF ?_⟩
    refine ⟨_, rfl, by show 2 ≤ sizeLine; decide, fun t2 hn => ?_⟩
    have s3 := same_new (o := .tup [V.str (Str.ofString ""), V.str (Str.ofString "")]) hn
    refine ⟨_, _, .tup (SqT.of (s3 _ _ ht2)) (.cons (.str x) (.cons (.str z) .nil)), .tup (SqT.of upd_same) (.cons (.str _) (.cons (.str _) .nil)), shp_two (sym_tx al mx) (sym_tx al mz), by decide +kernel, ?_⟩
    rw [eqv_two, decide_eq_false ne]
    refine ⟨_, rfl, iteF ?_⟩
    obtain ⟨kvs, g1, g2⟩ := hd
    refine ⟨_, rfl, d, rfl, .inr ⟨kvs, .inl (s3 _ _ (s2 _ _ g1))⟩, _, rfl, _, DGet.t (k := kk x z) (s3 _ _ (s2 _ _ g1)) (s3 _ _ ht2), rfl, _, rfl, ?_⟩
    rw [g2.val x mx z mz]
    obtain ⟨ks, hk, _⟩ := ok.tot
    have : (l.map fun q => spn cs p q.1 q.2)[i]? = some (spn cs p x z) := by rw [List.getElem?_map, hl]; rfl
    rw [hk, List.getElem?_map] at this
    have hns : ∃ k, spn cs p x z = some k := by
      cases e : ks[i]? with
      | none => rw [e] at this; exact nomatch this
      | some k => rw [e] at this; exact ⟨k, (Option.some.inj this).symm⟩
    obtain ⟨k, ek⟩ := hns
    show if decide ((some (oV (spn cs p x z))).getD V.non = V.non) = true then _ else _
    rw [ek]
    exact iteF ⟨⟨_, rfl⟩, s2.trans s3⟩
  · rintro σ H2 ⟨⟨o, rfl⟩, s2⟩
    obtain ⟨ks, hk, sk⟩ := ok.tot
    refine ⟨_, rfl, D, rfl, ⟨_, SqL.of (s2 _ _ hD)⟩, fun Y hY => ?_⟩
    refine walk_W (L2.walk_list (xs := us)) (fun i H' => H' Y = some (.lst ((ks.take i).map V.int)) ∧ Same H2 H') ⟨upd_same, same_new hY⟩ (fun i H' _ pv => SqL.of (pv.2 _ _ (s2 _ _ hD))) ?_ ?_
    · rintro i y H3 _ lt ⟨q3, s3⟩ ⟨rfl, hy⟩
      rename_i H3
      obtain ⟨t, x, z, rfl, ht, hl⟩ := hp.at hy
      obtain ⟨mx, mz, ne⟩ := ok.ok _ (List.mem_of_getElem? hl)
      have h3 := s3 _ _ (s2 _ _ ht)
      have hk2 : (l.map fun q => spn cs p q.1 q.2)[i]? = some (spn cs p x z) := by rw [List.getElem?_map, hl]; rfl
      rw [hk, List.getElem?_map] at hk2
      obtain ⟨k, ek, ei⟩ : ∃ k, spn cs p x z = some k ∧ ks[i]? = some k := by
        cases e : ks[i]? with
        | none => rw [e] at hk2; exact nomatch hk2
        | some k => rw [e] at hk2; exact ⟨k, (Option.some.inj hk2).symm, rfl⟩
      have dg := ((hd.same s2).same s3).get mx mz h3
      rw [ek] at dg
      refine ⟨rfl, yes_go ⟨_, rfl, _, rfl, d, _, rfl, dg, _, q3, ?_, ?_, fun b o hb => ?_⟩⟩
      · rw [List.length_map, List.length_take]
        omega
      · rw [upd_same, List.take_add_one, ei, List.map_append]
        rfl
      · rw [upd_ne (ne_of_none hb hY)]
        exact s3 _ _ hb
    · rintro H3 ⟨q3, s3⟩
      have lk : ks.length = l.length := by
        have := congrArg List.length hk
        rw [List.length_map, List.length_map] at this
        exact this.symm
      rw [lu, ← lk, List.take_length] at q3
      refine ⟨Y, ks, rfl, SqL.of q3, _, rfl, rfl, ?_⟩
      rw [sk, decide_eq_true rfl]
      exact q _ (s2.trans s3)
end
end KC

namespace KC
open PySem L2 Gd Fw KM
/-- an answer and what is due -/
def ToldAt (H : Hp) (v : V) (due : Co) (cs : List Nat) (p : Fn Str) (a b : Str) : Prop := (v = .non ∧ due = none) ∨ ∃ (t L : Addr) (us : List V) (l : List (Str × Str)) (c : Int), v = .ref t ∧ due = some c ∧ H t = some (.tup [.int c, .ref L]) ∧ H L = some (.lst us) ∧ PrsAt H us l ∧ ScrOk cs p l c a ∧ Txt.join "" (l.map fun q => q.2) = b ∧ c.natAbs < 2 ^ 64
theorem log64 {n : Nat} (h : n < 2 ^ 64) : n.log2 ≤ 64 := by
  by_cases z : n = 0
  · rw [z]
    decide
  · exact Nat.le_of_lt ((Nat.log2_lt z).mpr (Nat.lt_of_lt_of_le h (Nat.pow_le_pow_right (by decide) (by decide))))
def spTold : Sp := fun vs H Q _ => ∃ (d : Addr) (v : V) (due : Co) (a b : Str) (cs : List Nat) (p : Fn Str), vs = [.ref d, v, oV due, .str a, .str b] ∧ Alp cs ∧ DFn H d (symL cs) (spn cs p) ∧ ToldAt H v due cs p a b ∧ ∀ H', Same H H' → Q (.bl true) H'
section
variable {P : Program} {w : World} {K : PySem.W.Frag} {mg : Str → Option Value} {base : Heap}
abbrev s_law_told_right : Stmt := top 57
theorem sc_law_told_right : FnScope ["_law_costs_here", "_law_found", "_law_due", "_law_one", "_law_other", "_law_pair"] ["_law_costs_here", "_law_found", "_law_due", "_law_one", "_law_other"] (defScope s_law_told_right) := ⟨rfl, rfl, rfl, by decide +kernel, rfl, by decide +kernel, by decide +kernel⟩
theorem ok_told {f f1 : Addr} {fd fd1 : FuncData} (F : Fun K "_law_told_right" "_law_told_right" s_law_told_right f fd) (T : Txt mg base)
    (D__law_script_right : Df P w K mg base CX0 2 "_law_script_right" f1 fd1 ["_law_costs_here", "_law_script", "_law_cost", "_law_word"] spScrR) : FnG P w K mg base CX0 3 f fd ["_law_costs_here", "_law_found", "_law_due", "_law_one", "_law_other"] spTold := by
  refine okG F sc_law_told_right (fun vs H Q E h => ?_) (fun cdv A outer s H vs Q E hc hr h => ?_)
  · obtain ⟨d, v, due, a, b, cs, p, rfl, _⟩ := h
    rfl
  obtain ⟨d, v, due, a, b, cs, p, rfl, al, hd, told, q⟩ := h
  refine ⟨_, (pss_cons (ps_if (PW.pt (pw_or (pt_cmpR op_isN (pv 2) pe_non (nomark _)) (pw_or1 (pt_cmpR op_isN (pv 1) pe_non (nomark _)))))
  (pss_one (ps_ret (pe_and (pe_cmpR op_isN (pv 2) pe_non (nomark _)) (pe_one (pe_cmpR op_isN (pv 1) pe_non (nomark _)))))) pss_nil)
 (pss_cons (ps_if (PW.pt (pw_or (pt_not (pt_val (pe_callB call_isk (by rfl) T.z_isinstance (by decide +kernel) (pa_cons (pv 1) (pa_cons (pe_bltn (v := .ty "tuple") (by rfl) T.z_tuple (by decide +kernel) rfl) pa_nil))))) (pw_or (pt_cmpR op_ne (pe_callB call_len_seq (by rfl) T.z_len (by decide +kernel) (pa_cons (pv 1) pa_nil)) pe_int (nomark _)) (pw_or1 (pt_cmpR op_ne (pe_callB (call_repr hc T.sys (room100 hr)) (by rfl) T.z_repr (by decide +kernel) (pa_cons (pe_ix ix_tup (pv 1) pe_int (fun _ _ => rfl)) pa_nil)) (pe_callB (call_repr hc T.sys (room100 hr)) (by rfl) T.z_repr (by decide +kernel) (pa_cons (pv 2) pa_nil)) (nomark _))))))
  (pss_one (ps_ret pe_bl)) pss_nil)
 (pss_cons (ps_if (pt_not (pt_val (pe_d D__law_script_right hc (hr.mono (by omega)) (by rfl) (fun _ => passN) (pa_cons (pv 0) (pa_cons (pe_ix ix_tup (pv 1) pe_int (fun _ _ => rfl)) (pa_cons (pv 2) (pa_cons (pv 3) pa_nil)))))))
  (pss_one (ps_ret pe_bl)) pss_nil)
 (pss_one (ps_ret (pe_cmpR op_eq (pe_join pe_str (pe_lc (own := [("_law_pair", 5)]) (g := gName 5) rfl sc_law_told_right.nd (pi_list (pe_ix ix_tup (pv 1) pe_int (fun _ _ => rfl))) (blkOk_by (N := ["_law_costs_here", "_law_found", "_law_due", "_law_one", "_law_other", "_law_pair"]) (sc := defScope s_law_told_right) (by decide +kernel)) (fun _ _ _ _ _ => pg_name (i := 5) sc_law_told_right.nd rfl (Or.inl rfl)) (fun _ _ _ _ _ => pts_nil) (fun _ _ _ _ _ => (pe_ix (ix_tupK (K := K) rfl) (pv 5) pe_int (fun _ _ => rfl))))) (pv 4) (nomark _))))))), ?_⟩
  have sz := sizeLine_eq
  rcases told with ⟨rfl, rfl⟩ | ⟨t, L, us, l, c, rfl, rfl, ht, hL, hp, ok, two, c64⟩
  · refine ⟨_, rfl, rfl, _, rfl, iteT (iteT ?_)⟩
    exact ⟨_, rfl, rfl, _, rfl, iteT ⟨_, rfl, rfl, q _ (Same.refl H)⟩⟩
  · refine ⟨_, rfl, rfl, _, rfl, iteF ⟨_, rfl, rfl, _, rfl, iteF ?_⟩⟩
    have lu := hp.len
    have okl := ok.len
    have lg := log64 c64
    have ist : inst "tuple" (kind H (.ref t)) = true := by
      show inst "tuple" (kindO (H t)) = true
      rw [ht]
      show inst "tuple" Gd.Kind.tup = true
      decide +kernel
    have pvt : Pv H (.ref t) := by
      show kindO (H t) ≠ .odd
      rw [ht]
      exact fun z => nomatch z
    refine ⟨_, rfl, .ref t, _, rfl, .inr (.inr (.inr (.inr (.inl rfl)))), pvt, _, rfl, ?_⟩
    rw [ist]
    refine iteF ⟨_, rfl, t, _, rfl, .inr (SqT.of ht), rfl, _, rfl, iteF ?_⟩
    refine ⟨_, rfl, t, _, _, _, rfl, rfl, SqT.of ht, atI_nat (j := 0) rfl, .int c, .int c, rfl, .int c, ?_, ?_, by show 0 ≤ 64; decide, ?_⟩
    · show c.natAbs.log2 < 1920
      omega
    · show c.natAbs.log2 + 3 ≤ sizeLine
      omega
    refine ⟨_, rfl, .int c, .int c, rfl, .int c, ?_, ?_, by show 0 ≤ 64; decide, rfl, _, rfl, ?_⟩
    · show c.natAbs.log2 < 1920
      omega
    · show c.natAbs.log2 + 3 ≤ sizeLine
      omega
    rw [decide_eq_true rfl]
    refine iteF ?_
    refine ⟨_, rfl, _, rfl, t, _, _, _, rfl, rfl, SqT.of ht, atI_nat (j := 1) rfl, _, rfl, _, rfl, d, L, c, a, cs, p, us, l, rfl, al, hd, hL, hp, ok, fun H1 s1 => ⟨_, rfl, iteF ?_⟩⟩
    have len1 : ∀ q ∈ l, q.2.length ≤ 1 := fun q hq => by
      rcases mem_sym.mp (ok.ok q hq).2.1 with h | ⟨c, _, h⟩
      · rw [h]
        exact Nat.zero_le _
      · rw [h]
        exact Nat.le_refl _
    refine ⟨⟨_, rfl⟩, _, rfl, t, _, _, _, rfl, rfl, SqT.of (s1 _ _ ht), atI_nat (j := 1) rfl, L, rfl, ⟨_, SqL.of (s1 _ _ hL)⟩, fun Z hZ => ?_⟩
    refine walk_W (L2.walk_list (xs := us)) (fun i H' => H' Z = some (.lst (((l.take i).map fun q => q.2).map V.str)) ∧ Same H1 H') ⟨upd_same, same_new hZ⟩ (fun i H' _ pv => SqL.of (pv.2 _ _ (s1 _ _ hL))) ?_ ?_
    · rintro i y H2 _ lt ⟨q1, s2⟩ ⟨rfl, hy⟩
      rename_i H2
      obtain ⟨t', x, z, rfl, ht', hl⟩ := hp.at hy
      refine ⟨rfl, yes_go ⟨_, rfl, t', _, _, _, rfl, rfl, SqT.of (s2 _ _ (s1 _ _ ht')), atI_nat (j := 1) rfl, _, q1, ?_, ?_, fun b o hb => ?_⟩⟩
      · rw [List.length_map, List.length_map, List.length_take]
        omega
      · rw [upd_same, List.take_add_one, hl, List.map_append, List.map_append]
        rfl
      · rw [upd_ne (ne_of_none hb hZ)]
        exact s2 _ _ hb
    rintro H2 ⟨q1, s2⟩
    rw [lu, List.take_length] at q1
    have hs : ((l.map fun q => q.2).map fun x => x.length).sum ≤ l.length := by
      have : ∀ l : List (Str × Str), (∀ q ∈ l, q.2.length ≤ 1) → ((l.map fun q => q.2).map fun x => x.length).sum ≤ l.length := by
        intro l
        induction l with
        | nil => exact fun _ => Nat.le_refl _
        | cons q l ih =>
          intro h
          rw [List.map_cons, List.map_cons, List.sum_cons, List.length_cons]
          have a1 := h q List.mem_cons_self
          have a2 := ih fun z hz => h z (List.mem_cons_of_mem _ hz)
          omega
      exact this l len1
    refine ⟨_, Z, _, rfl, rfl, .inl (SqL.of q1), ?_, _, rfl, rfl, ?_⟩
    · have e0 : (Str.ofString "").length = 0 := rfl
      rw [e0]
      omega
    have ew : Txt.join (Str.ofString "") (l.map fun q => q.2) = b := two
    rw [ew, decide_eq_true rfl]
    exact q _ (s1.trans s2)
end
end KC

namespace KC
open PySem L2 Gd Fw KM
theorem fin_ran {cs : List Nat} {p : Fn Str} {s t : List Str} (al : Alp cs) (pp : Prc (symL cs) p) (cap : Cap (symL cs) p) {c : Int} (h : (fin cs p s t).f 0 0 = some c) : 0 ≤ c ∧ c ≤ (54 * (s.length + t.length) : Nat) := by
  have hyp : Dk.Hyp (wgt cs p) (Dk.ent eps s) (Dk.ent eps t) s.length t.length 54 := Dk.hyp_ent wgt_eps (fun h => wgt_pos al pp cap h)
  have i0 : Dk.Inv (wgt cs p) (Dk.ent eps s) (Dk.ent eps t) s.length t.length 54 (st0 s.length t.length) := Dk.start_inv
  have iv := Dk.itn_inv (lt := ltE) hyp (Dk.mu s.length t.length 54 (st0 s.length t.length)) i0
  obtain ⟨_, _, h1, h2⟩ := iv.ran h
  exact ⟨h1, h2⟩
theorem ltr_flat (a : Str) : ((ltr a).map fun x => x.cps.toList).flatten = a.cps.toList := by
  unfold ltr
  rw [List.map_map]
  generalize a.cps.toList = cs
  induction cs with
  | nil => rfl
  | cons c cs ih =>
    rw [List.map_cons, List.flatten_cons, ih]
    rfl
theorem tot_list {w : Str → Str → Co} : ∀ (l : List (Str × Str)) (c : Int), Dk.totW w l = some c → ∃ ks : List Int, l.map (fun q => w q.1 q.2) = ks.map some ∧ ks.sum = c
  | [], c, h => by
    have h : some (0 : Int) = some c := h
    cases h
    exact ⟨[], rfl, rfl⟩
  | q :: l, c, h => by
    obtain ⟨u, v, e1, e2, rfl⟩ := csum_some (show csum (w q.1 q.2) (Dk.totW w l) = some c from h)
    obtain ⟨ks, h1, h2⟩ := tot_list l v e2
    refine ⟨u :: ks, ?_, ?_⟩
    · rw [List.map_cons, List.map_cons, h1, e1]
    · rw [List.sum_cons, h2]
theorem told_of {cs : List Nat} {p : Fn Str} {a b : Str} {G H : Hp} {v : V} {R : Nat → Nat → Co} (al : Alp cs) (pp : Prc (symL cs) p) (cap : Cap (symL cs) p) (hv : AnsAt G H v (ans cs p (ltr a) (ltr b)))
    (loc : ∀ i j, i ≤ a.length → j ≤ b.length → Dk.Loc (wgt cs p) eps (ltr a) (ltr b) R i j) (small : a.length + b.length ≤ 500) : ToldAt H v (R 0 0) cs p a b := by
  obtain ⟨hyp, best, tight⟩ := fin_inv (s := ltr a) (t := ltr b) al pp cap
  have bR : Dk.Best (wgt cs p) (Dk.ent eps (ltr a)) (Dk.ent eps (ltr b)) (ltr a).length (ltr b).length R := Dk.best_loc (W := 54) wgt_eps (fun i j hi hj => loc i j (by rw [ltr_len] at hi; exact hi) (by rw [ltr_len] at hj; exact hj)) (fun h => wgt_pos al pp cap h)
  have e0 := Dk.best_eq hyp best bR (Nat.zero_le _) (Nat.zero_le _)
  unfold ans at hv
  rw [← e0]
  cases e : (fin cs p (ltr a) (ltr b)).f 0 0 with
  | none =>
    rw [e] at hv
    exact .inl ⟨hv, rfl⟩
  | some c =>
    rw [e] at hv
    obtain ⟨t, L, us, h1, h2, h3, h4, h5⟩ := hv
    obtain ⟨b1, b2⟩ := fin_ran al pp cap e
    obtain ⟨w1, w2, w3, w4, w5⟩ := Dk.walk_all hyp tight (fun x : Str => x.cps.toList) rfl ((ltr a).length + (ltr b).length) 0 0 c (Nat.zero_le _) (Nat.zero_le _) (by omega) e
    rw [List.drop_zero, ltr_flat] at w2 w3
    have x1 := ltr_len (z := a)
    have x2 := ltr_len (z := b)
    have okq : ∀ q ∈ Dk.walk (fin cs p (ltr a) (ltr b)).g ((ltr a).length + (ltr b).length) 0 0, (q.1 ∈ symL cs ∧ q.2 ∈ symL cs ∧ ¬ (q.1 = eps ∧ q.2 = eps)) ∧ wgt cs p q.1 q.2 = spn cs p q.1 q.2 := fun q hq => by
      obtain ⟨_, _, k, hk⟩ := w5 q hq
      have hk2 := hk
      unfold wgt at hk
      split at hk
      · rename_i c
        exact ⟨c, if_pos c⟩
      · exact nomatch hk
    refine .inr ⟨t, L, us, _, c, h1, rfl, h2, h3, h4, ⟨by omega, fun q hq => (okq q hq).1, ?_, ?_⟩, ?_, by omega⟩
    · obtain ⟨ks, k1, k2⟩ := tot_list _ c w1
      refine ⟨ks, ?_, k2⟩
      rw [← k1]
      exact List.map_congr_left fun q hq => (okq q hq).2.symm
    · refine str_ext ?_
      rw [join0_list, List.map_map]
      exact w2
    · refine str_ext ?_
      rw [join0_list, List.map_map]
      exact w3
theorem small_of {a b : Str} (h : (a.length + 1) * (b.length + 1) * (54 * (a.length + b.length) + 2) ≤ 33000000) : Small (ltr a) (ltr b) := by
  unfold Small
  rw [ltr_len, ltr_len]
  exact h
theorem repS_len' (x : Str) (n : Int) : (repS x n).length = n.toNat * x.length := by
  rw [Gd.len_list, repS_list, List.length_flatten, List.map_replicate, List.sum_replicate_nat, Gd.len_list]
theorem ov_rep {cs : List Nat} {z : Str} {n : Int} (o : Ov cs z) : Ov cs (repS z n) := fun c hc => by
  rw [repS_list] at hc
  obtain ⟨l, hl, hc⟩ := List.mem_flatten.mp hc
  rw [List.eq_of_mem_replicate hl] at hc
  exact o c hc
theorem cut_to {z : Str} {k : Nat} : (cutS z none (some (k : Int))).length ≤ k := by
  show (((z.cps.toList.drop (HT.sIx z.length 0 none)).take (HT.sIx z.length z.length (some (k : Int)) - HT.sIx z.length 0 none)).toArray).size ≤ k
  rw [List.size_toArray, List.length_take, HT.sIx_nat, HT.sIx_none]
  omega
def spLong (C : Addr) : Sp := fun vs H Q _ => ∃ (q d : Addr) (v : V) (L : Str) (p : Fn Str), vs = [.ref q, .str L, v, .ref d] ∧ BoxAt H q ∧ Lets L ∧ PrAt C H v (cod L) p ∧ Prc (symL (cod L)) p ∧ Cap (symL (cod L)) p ∧ DFn H d (symL (cod L)) (spn (cod L) p) ∧ d ≠ q ∧ (∀ H', Kept H H' q → PrAt C H' v (cod L) p) ∧ (∀ H', Kept H H' q → DFn H' d (symL (cod L)) (spn (cod L) p)) ∧ ∀ H', Kept H H' q → Q (.bl true) H'
section
variable {P : Program} {w : World} {K : PySem.W.Frag} {mg : Str → Option Value} {base : Heap}
abbrev s_law_long_right : Stmt := top 58
theorem sc_law_long_right : FnScope ["_law_box_here", "_law_letters", "_law_sheet", "_law_costs_here", "_law_piece", "_law_long", "_law_short", "_law_due", "_law_place"] ["_law_box_here", "_law_letters", "_law_sheet", "_law_costs_here"] (defScope s_law_long_right) := ⟨rfl, rfl, rfl, by decide +kernel, rfl, by decide +kernel, by decide +kernel⟩
theorem ok_long {C f f1 f2 f3 f4 f5 : Addr} {fd fd1 fd2 fd3 fd4 fd5 : FuncData} (F : Fun K "_law_long_right" "_law_long_right" s_law_long_right f fd) (T : Txt mg base)
    (D__law_take : Df P w K mg base CX0 1 "_law_take" f1 fd1 ["_law_box_here", "_law_size"] spTake) (D__law_text : Df P w K mg base CX0 2 "_law_text" f2 fd2 ["_law_box_here", "_law_letters", "_law_most"] spLText)
    (D__law_rest : Df P w K mg base CX0 2 "_law_rest" f3 fd3 ["_law_costs_here", "_law_one", "_law_other"] spRest) (D__law_told_right : Df P w K mg base CX0 3 "_law_told_right" f4 fd4 ["_law_costs_here", "_law_found", "_law_due", "_law_one", "_law_other"] spTold)
    (D_cheapest_script : Df P w K mg base CX0 8 "cheapest_script" f5 fd5 ["prices", "source", "target"] (spScript C)) : FnG P w K mg base CX0 9 f fd ["_law_box_here", "_law_letters", "_law_sheet", "_law_costs_here"] (spLong C) := by
  refine okG F sc_law_long_right (fun vs H Q E h => ?_) (fun cdv A outer s H vs Q E hc hr h => ?_)
  · obtain ⟨q, d, v, L, p, rfl, _⟩ := h
    rfl
  obtain ⟨q0, d, v, L, p, rfl, hb, al, pr, pp, cap, hd, nd, prK, hdK, q⟩ := h
  refine ⟨_, (pss_cons (ps_set (i := 4) sc_law_long_right.nd rfl (Or.inl rfl) (pe_join pe_str (pe_lc (own := [("_law_place", 8)]) (g := gName 8) rfl sc_law_long_right.nd (pi_range1 rfl T.z_range (pa_cons (pe_op op_add pe_int (pe_d D__law_take hc (hr.mono (by omega)) (by rfl) (fun _ => passN) (pa_cons (pv 0) (pa_cons pe_int pa_nil)))) pa_nil)) (blkOk_by (N := ["_law_box_here", "_law_letters", "_law_sheet", "_law_costs_here", "_law_piece", "_law_long", "_law_short", "_law_due", "_law_place"]) (sc := defScope s_law_long_right) (by decide +kernel)) (fun _ _ _ _ _ => pg_name (i := 8) sc_law_long_right.nd rfl (Or.inl rfl)) (fun _ _ _ _ _ => pts_nil) (fun _ _ _ _ _ => (pe_ix ix_str (pv 1) (pe_d D__law_take hc (hr.mono (by omega)) (by rfl) (fun _ => passN) (pa_cons (pv 0) (pa_cons (pe_callB call_len_str (by rfl) T.z_len (by decide +kernel) (pa_cons (pv 1) pa_nil)) pa_nil))) (fun _ _ => rfl))))))
 (pss_cons (ps_par (i := 5) (j := 6) (by rfl) sc_law_long_right.nd rfl rfl (by decide) rfl rfl (pa_cons (pe_slice sl_str (pe_op op_repS (pv 4) pe_int) po_none (po_some (pe_op op_sub pe_int (pe_d D__law_take hc (hr.mono (by omega)) (by rfl) (fun _ => passN) (pa_cons (pv 0) (pa_cons pe_int pa_nil)))))) (pa_cons (pe_slice sl_str (pe_d D__law_text hc (hr.mono (by omega)) (by rfl) (fun _ => passN) (pa_cons (pv 0) (pa_cons (pv 1) (pa_cons pe_int pa_nil)))) po_none (po_some pe_int)) pa_nil)) (by rfl))
 (pss_cons (ps_set (i := 7) sc_law_long_right.nd rfl (Or.inl rfl) (pe_ix ix_list (pe_ix ix_list (pe_d D__law_rest hc (hr.mono (by omega)) (by rfl) (fun _ => passN) (pa_cons (pv 3) (pa_cons (pv 5) (pa_cons (pv 6) pa_nil)))) pe_int (fun _ _ => rfl)) pe_int (fun _ _ => rfl)))
 (pss_one (ps_ret (pe_d D__law_told_right hc (hr.mono (by omega)) (by rfl) (fun _ => passN) (pa_cons (pv 3) (pa_cons (pe_d D_cheapest_script hc (hr.mono (by omega)) (by rfl) (fun _ => passN) (pa_cons (pv 2) (pa_cons (pv 5) (pa_cons (pv 6) pa_nil)))) (pa_cons (pv 7) (pa_cons (pv 5) (pa_cons (pv 6) pa_nil))))))))))), ?_⟩
  have sz := sizeLine_eq
  have ll := al.len
  have lp := al.pos
  have aL := al.alp
  refine ⟨⟨_, rfl⟩, _, rfl, q0, _, rfl, hb, by decide, by decide, fun m H1 m0 m1 t1 => ⟨_, _, rfl, rfl, _, rfl, by omega, by omega, fun D hD => ?_⟩⟩
  have nD : H D = none := t1.kept.free hb hD
  have nDp : D ≠ q0 := Kept.ne hb nD
  have k1 := ((Kept.refl hb).turn t1).put hb nD (o := .lst [])
  refine walk_W (L2.walk_range (lo := 0) (n := (1 + m).toNat)) (fun i H' => (∃ cs : List Nat, H' D = some (.lst ((cs.map fun c => (⟨#[c]⟩ : Str)).map V.str)) ∧ cs.length = i ∧ ∀ c ∈ cs, c ∈ cod L) ∧ Kept H H' q0) ⟨⟨[], upd_same, rfl, fun x h => nomatch h⟩, k1⟩ (fun _ _ _ _ => trivial) ?_ ?_
  · rintro i y H3 _ lt ⟨⟨cs, hA2, lc, okc⟩, k4⟩ ⟨rfl, rfl⟩
    rename_i H3
    refine ⟨rfl, yes_go ?_⟩
    refine ⟨_, rfl, _, rfl, _, rfl, L, rfl, by omega, q0, _, rfl, k4.box, by omega, by omega, fun e H4 e0 e1 t3 => ?_⟩
    obtain ⟨c, hc, mc⟩ := atI_all (l := L.cps.toList) (p := fun c => c ∈ L.cps.toList) (fun _ h => h) e0 (by rw [← len_list]; exact e1)
    refine ⟨L, e, c, rfl, rfl, by omega, hc, ?_⟩
    refine ⟨_, t3.at nDp hA2, by rw [List.length_map, List.length_map]; omega, ⟨cs ++ [c], ?_, ?_, fun x hx => ?_⟩, (k4.turn t3).put hb nD⟩
    · rw [upd_same, List.map_append, List.map_append]
      rfl
    · rw [List.length_append, List.length_singleton, lc]
    · rcases List.mem_append.mp hx with hx | hx
      · exact okc x hx
      · cases List.mem_singleton.mp hx
        exact cod_mem.mpr mc
  rintro H3 ⟨⟨cs, hA2, lc, okc⟩, k4⟩
  have el : (Txt.join "" (cs.map fun c => (⟨#[c]⟩ : Str))).length = cs.length := by rw [len_list, join_chars]
  have oz : Ov (cod L) (Txt.join "" (cs.map fun c => (⟨#[c]⟩ : Str))) := fun c hc => by
    rw [join_chars] at hc
    exact okc c hc
  refine ⟨_, D, _, rfl, rfl, .inl (SqL.of hA2), ?_, ?_⟩
  · have e0 : (Str.ofString "").length = 0 := rfl
    rw [sum_chars, e0]
    omega
  show gName 4 (V.str (Txt.join "" (cs.map fun c => (⟨#[c]⟩ : Str)))) _ _ _
  generalize Txt.join "" (cs.map fun c => (⟨#[c]⟩ : Str)) = z at el oz ⊢
  have zl : z.length ≤ 5 ∧ z.length ≠ 0 := by omega
  have lr := repS_len' z 400
  refine ⟨_, rfl, z, 400, rfl, rfl, by decide, by decide, zl.2, ?_, ?_⟩
  · show z.length * 400 ≤ sizeLine
    omega
  have lr4 : (repS z 400).length = 400 * z.length := lr
  refine ⟨_, rfl, q0, 30, rfl, k4.box, by decide, by decide, fun u H4 u0 u1 t4 => ⟨_, _, rfl, rfl, _, rfl, repS z 400, rfl, by omega, ?_⟩⟩
  obtain ⟨k, hk⟩ : ∃ k : Nat, 400 - u = (k : Int) := ⟨(400 - u).toNat, by omega⟩
  rw [hk]
  have k5 := k4.turn t4
  have c1 := cut_to (z := repS z 400) (k := k)
  have o1 : Ov (cod L) (cutS (repS z 400) none (some (k : Int))) := ov_cut (ov_rep oz)
  generalize cutS (repS z 400) none (some (k : Int)) = a at c1 o1 ⊢
  refine ⟨_, rfl, _, rfl, q0, L, 2, rfl, k5.box, al, by decide, by decide, fun b0 H5 k6 ob0 lb0 => ⟨_, rfl, b0, rfl, by omega, ?_⟩⟩
  have lb : (cutS b0 none (some 2)).length ≤ 2 := Nat.le_trans (cutS_length _ _ _) (by omega)
  have ob : Ov (cod L) (cutS b0 none (some 2)) := ov_cut ob0
  generalize cutS b0 none (some 2) = b at lb ob ⊢
  have k7 := k5.trans k6
  have la : a.length ≤ 400 := by omega
  refine ⟨_, _, rfl, _, rfl, _, rfl, _, rfl, d, a, b, cod L, p, rfl, aL, hdK _ k7, o1, ob, by omega, by omega, fun rv H6 R s6 ⟨F, rs, ev, mx⟩ loc => ?_⟩
  subst ev
  obtain ⟨r0, hr0, hm0⟩ := mx.row (Nat.zero_le _)
  refine ⟨F, _, _, _, rfl, rfl, SqL.of mx.hF, atI_nat (j := 0) (by rw [List.getElem?_map, hr0]; rfl), r0, _, _, _, rfl, rfl, SqL.of hm0, atI_nat (j := 0) (mRow_at (Nat.zero_le _)), ?_⟩
  have k8 := k7.same s6
  have sm : (a.length + 1) * (b.length + 1) * (54 * (a.length + b.length) + 2) ≤ 33000000 := by
    have h1 : (a.length + 1) * (b.length + 1) ≤ 401 * 3 := Nat.mul_le_mul (by omega) (by omega)
    have h2 : (a.length + 1) * (b.length + 1) * (54 * (a.length + b.length) + 2) ≤ (401 * 3) * (54 * 402 + 2) := Nat.mul_le_mul h1 (by omega)
    omega
  refine ⟨_, rfl, _, rfl, _, rfl, _, rfl, v, a, b, cod L, p, rfl, prK _ k8, aL, pp, cap, o1, ob, by omega, by omega, small_of sm, fun r H7 s7 ar => ?_⟩
  have td := told_of aL pp cap ar loc (by omega)
  have k9 := k8.same s7
  exact ⟨_, rfl, _, rfl, _, rfl, d, r, R 0 0, a, b, cod L, p, rfl, aL, hdK _ k9, td, fun H8 s8 => q _ (k9.same s8)⟩
end
end KC

/-! list(d.items()), the keys tuples -/
namespace DiI
open PySem PySem.W PySem.Calls PyProof.Rows PyProof.V PySem.Spec DT
section
variable {prog : Program} {w : World} {A : Around} {E : Value → Shared → Prop} {s : Shared} {r d : Addr} {es : Array DictEntry} {ep : Nat}
theorem initI {R : Result → Shared → Prop} {c : Nat} (hh : A.handled = none) (hv : s.heap.IsItemsView r d) (hm : Raw s.heap d es ep) (S : Addr) (hSr : S ≠ r) (hSd : d ≠ S) (hS : s.heap.get? S = some { cls := .type "list", data := .seq #[] c })
    (hR : ∀ h' tk acc c as, (∀ b o, b ≠ S → s.heap.get? b = some o → h'.get? b = some o) → h'.get? S = some { cls := .type "list", dict := none, data := .seq acc c, slots := #[] } → as.length = es.size → Made es S h' as →
      acc.toList = as.map Value.ref → R (.ok (.ret .none)) { s with heap := h', toks := tk }) (hn : es.size ≤ sizeLine) :
    wpAny (model prog w) A.in1 (Builtin.«list.__init__» ⟨[.ref S, .ref r], []⟩)
      (fun fin s' => match fin with | .done f => R (.ok f) s' | .again c' => c'.quiet = true ∧ codeAny (model prog w) A c' R s') (fun e s' => R (.error e) s') s := by
  show wpAny _ _ (do let old ← Builtin.List.listItems (.ref S); Builtin.List.listUpdate (.ref S) (fun _ => #[]); letGo old.toList.reverse; Builtin.List.listExtendWith (.ref S) (.ref r) .none) _ _ s
  refine wpAny_bind ?_
  unfold Builtin.List.listItems
  refine wpAny_bind (wpAny_seqItems hS rfl (wpAny_pure ?_))
  show wpAny _ _ (updateSeq S (fun _ => #[]) >>= fun _ => letGo (#[] : Array Value).toList.reverse >>= fun _ => Builtin.List.listExtendWith (.ref S) (.ref r) .none) _ _ s
  refine wpAny_bind (wpAny_updateSeq hS rfl ?_)
  have hS₂ := Heap.get?_update_self (Obj.mapSeq (fun _ => (#[] : Array Value))) hS rfl
  have oth : ∀ b o, b ≠ S → s.heap.get? b = some o → (s.heap.update S (Obj.mapSeq (fun _ => (#[] : Array Value)))).get? b = some o :=
    fun b o hb e => (Heap.get?_update_other _ _ (Ne.symm hb)).trans e
  refine wpAny_bind (wpAny_letGo ?_)
  refine extI (es := es) (ep := ep) hh (let ⟨o, ho, x⟩ := hv; ⟨o, oth r o hSr.symm ho, x⟩) (hm.at' fun o e => oth d o hSd e) S hSr hSd .none _ hS₂ (fun h' tk acc c as hk hS' hl hG hacc => ?_) hn
  exact hR h' tk acc c as (fun b o hb e => hk b o hb (oth b o hb e)) hS' hl (hG.low (Nat.le_of_lt (Heap.lt_size hS₂))) hacc
theorem callI {Q : Value → Shared → Prop} (hh : A.handled = none) (hv : s.heap.IsItemsView r d) (hm : Raw s.heap d es ep) (hn : es.size ≤ sizeLine)
    (hQ : ∀ h' tk acc c as, (∀ b o, s.heap.get? b = some o → h'.get? b = some o) → h'.get? s.heap.objs.size = some { cls := .type "list", dict := none, data := .seq acc c, slots := #[] } → as.length = es.size → Made es s.heap.objs.size h' as →
      acc.toList = as.map Value.ref → Q (.ref s.heap.objs.size) { s with heap := h', toks := tk }) :
    wpAny (model prog w) A (call (.type "list") [.ref r]) Q E s := by
  refine callType_codes (Q₁ := fun obj s₁ => obj = .ref s.heap.objs.size ∧ s₁ = { s with heap := s.heap.push { cls := .type "list", data := .seq #[] } }) PySem.F.called_list (PySem.F.typeCall_list_1 _) PySem.F.entry_list_init
    (code_list_new _ ⟨rfl, rfl⟩) fun obj s₁ h₁ => ?_
  obtain ⟨rfl, rfl⟩ := h₁
  have hS : (s.heap.push { cls := .type "list", data := .seq #[] }).get? s.heap.objs.size = some { cls := .type "list", data := .seq #[] } := Heap.get?_push_size _ rfl
  have hr : r < s.heap.objs.size := let ⟨_, ho, _⟩ := hv; Heap.lt_size ho
  have hd : d < s.heap.objs.size := hm.lt
  refine ⟨⟨_, hS, rfl⟩, PySem.F.args_list_init_2 _ _, initI (es := es) (ep := ep) (A := A.in1) hh (let ⟨o, ho, x⟩ := hv; ⟨o, Heap.get?_push_of_some _ ho, x⟩) (hm.push _) _ (Nat.ne_of_gt hr) (Nat.ne_of_lt hd) hS (fun h' tk acc c as hk hS' hl hG hacc => ?_) hn⟩
  exact ⟨rfl, hQ h' tk acc c as (fun b o e => hk b o (Nat.ne_of_lt (Heap.lt_size e)) (Heap.get?_push_of_some _ e)) hS' hl hG hacc⟩
end
end DiI
namespace L2.DX
open PySem PySem.Spec PyProof.Rows
def rListItT : List V → Hp → VK → Prop := fun vs H Q => ∃ (p d : Addr) (kvs : List (List L2.Key × V)), vs = [.ref p] ∧ H p = some (itemsO p d) ∧ H d = some (.dT kvs) ∧
  ∀ (H' : Hp) (l : Addr) (as : List Addr), (∀ b o, H b = some o → H' b = some o) → H l = none → H' l = some (.lst (as.map V.ref)) → as.length = kvs.length →
    (∀ (j : Nat) (t : Addr), as[j]? = some t → ∃ (kv : List L2.Key × V) (kq : Addr), kvs[j]? = some kv ∧ H' t = some (.tup [.ref kq, kv.2]) ∧ H' kq = some (.tup (kv.1.map kV))) → (kvs.map (·.1)).Nodup → Q (.ref l) H'
section
variable {X : Cx}
theorem cr_listItemsT (hc : X.calm = true) : CallR X (.type "list") rListItT := by
  intro pins s σ H xs us Q I r h
  obtain ⟨p, d, kvs, rfl, hp, ha, q⟩ := h
  obtain rfl := Vals.ref1 r
  have view : s.heap.IsItemsView p d := (show ObjOk X.prog X.w H s.heap p (itemsO p d) from I.hok p _ hp).1
  obtain ⟨z, hd, xs', rel, o, es, ep, ho, hx, hdat, hes, his, hn⟩ := dt_of I.hok ha
  have l1 : kvs.length = xs'.length := Paired.length rel
  have l2 : es.size = xs'.length := size_of_entries hes
  have hh : X.A.handled = none := I.ok.hd hc
  refine DiI.callI (es := es) (ep := ep) hh view ⟨o, ho, hx, hdat⟩ (by omega) fun h' tk acc c as hk hS hl hG hacc => ?_
  have lak : as.length = kvs.length := by omega
  have nd : as.Nodup := List.Pairwise.imp (fun h => Nat.ne_of_lt h) hG.rise
  have pr : ∀ (j : Nat) (b : Addr), as[j]? = some b → ∃ (kv : List L2.Key × V) (kq : Addr) (u : Value), kvs[j]? = some kv ∧ H kq = some (.tup (kv.1.map kV)) ∧ RelV kv.2 u ∧ h'.get? b = some { cls := .type "tuple", data := .seq #[Value.ref kq, u] } := by
    intro j b hj
    obtain ⟨en, he, hg⟩ := hG.pairs j b hj
    rw [entry_at hes j] at he
    cases hxj : xs'[j]? with
    | none =>
      rw [hxj] at he
      exact nomatch (show (none : Option DictEntry) = some en from he)
    | some x =>
      rw [hxj] at he
      have een : entryOfKey (tupleKind (mixKind X.prog X.w)) x = en := Option.some.inj he
      obtain ⟨e0, he0, r1, r2, r3⟩ := pget rel hxj
      refine ⟨e0, x.2.1, x.2.2, he0, r2, r3, ?_⟩
      rw [hg, ← een]
      all_goals rfl
  have I1 : Inv X pins σ H { s with heap := h', toks := tk } := I.kept (t' := tk) hk
  have hn0 : H s.heap.objs.size = none := I.hok.fresh (Nat.le_refl _)
  have hlen : (as.map V.ref).length ≤ sizeLine := by
    rw [List.length_map]
    omega
  have I2 : Inv X pins σ (upd H s.heap.objs.size (.lst (as.map V.ref))) { s with heap := h', toks := tk } :=
    I1.take (h' := h') (t' := tk) (fun b ob _ e => e) (I.fpOk (Nat.le_refl _) hn0) ⟨hlen, acc.toList, c, by rw [hacc]; exact LiI.vals_refs as, by rw [Array.toArray_toList]; exact hS⟩
  obtain ⟨H2, I3, g, qt⟩ := takeT (P := fun b vs => ∃ (j : Nat) (kv : List L2.Key × V) (kq : Addr), as[j]? = some b ∧ kvs[j]? = some kv ∧ vs = [.ref kq, kv.2] ∧ H kq = some (.tup (kv.1.map kV))) I as _ I2 nd fun b hb => by
    obtain ⟨j, hj⟩ := List.mem_iff_getElem?.mp hb
    obtain ⟨kv, kq, u, he, hkq, ru, hg⟩ := pr j b hj
    have hbl : s.heap.objs.size < b := hG.above b hb
    refine ⟨Nat.le_of_lt hbl, ?_, [.ref kq, kv.2], ⟨j, kv, kq, hj, he, rfl, hkq⟩, fun H3 => ⟨(by rw [sizeLine_eq]; show 2 ≤ 16777216; omega), [Value.ref kq, u], .cons rfl (.cons ru .nil), ⟨_, hg, rfl, 0, rfl⟩⟩⟩
    rw [upd_ne (Nat.ne_of_gt hbl)]
    exact I.hok.fresh (Nat.le_of_lt hbl)
  have gr : ∀ b o, H b = some o → H2 b = some o := fun b o e => g b o (by rw [upd_ne (ne_of_none e hn0)]; exact e)
  refine ⟨.ref s.heap.objs.size, H2, I3, rfl, q H2 _ as gr hn0 (g _ _ upd_same) lak (fun j t hj => ?_) ?_⟩
  rotate_left
  · have : ∀ {kvs : List (List L2.Key × V)} {xs : List (List L2.Key × Addr × Value)}, KT H kvs xs → kvs.map (·.1) = xs.map (·.1) := fun h => by
      induction h with
      | nil => rfl
      | cons f _ ih => rw [List.map_cons, List.map_cons, ih, f.1]
    rw [this rel]
    exact hn
  obtain ⟨vs, ⟨i, kv, kq, i1, i2, ev, hkq⟩, hH⟩ := qt t (List.mem_of_getElem? hj)
  have eij : j = i := (List.getElem?_inj (List.getElem?_eq_some_iff.mp hj).1 nd).mp (hj.trans i1.symm)
  subst eij
  rw [ev] at hH
  exact ⟨kv, kq, i2, hH, gr _ _ hkq⟩
end
end L2.DX

namespace KC
open PySem L2 Gd Fw KM
/-! ### a part of the heap without the pool -/
structure Fr (G H : Hp) (p : Addr) : Prop where
  sub : Same G H
  no : G p = none
  box : BoxAt H p
def wo (p : Addr) (H : Hp) : Hp := fun b => if b = p then none else H b
theorem wo_fr {H : Hp} {p : Addr} (b : BoxAt H p) : Fr (wo p H) H p := by
  refine ⟨fun q o h => ?_, if_pos rfl, b⟩
  unfold wo at h
  split at h
  · exact nomatch h
  · exact h
theorem wo_at {H : Hp} {p q : Addr} {o : HO} (h : H q = some o) (n : q ≠ p) : wo p H q = some o := by
  unfold wo
  rw [if_neg n]
  exact h
theorem Fr.free {G H : Hp} {p t : Addr} (f : Fr G H p) (h : H t = none) : G t = none := by
  cases e : G t with
  | none => rfl
  | some o =>
    rw [f.sub _ _ e] at h
    exact nomatch h
theorem Fr.new {G H : Hp} {p t : Addr} {o : HO} (f : Fr G H p) (h : H t = none) : Fr (upd G t o) (upd H t o) p := by
  refine ⟨fun b u e => ?_, ?_, f.box.upd h⟩
  · by_cases z : b = t
    · subst z
      rw [upd_same] at e ⊢
      exact e
    · rw [upd_ne z] at e ⊢
      exact f.sub _ _ e
  · rw [upd_ne (Kept.ne f.box h).symm]
    exact f.no
theorem Fr.kept {G H H' : Hp} {p : Addr} (f : Fr G H p) (k : Kept H H' p) : Fr G H' p :=
  ⟨fun b u e => k.2 b u (fun z => by rw [z, f.no] at e; exact nomatch e) (f.sub _ _ e), f.no, k.box⟩
theorem Fr.same {G H H' : Hp} {p : Addr} (f : Fr G H p) (s : Same H H') : Fr G H' p :=
  f.kept ((Kept.refl f.box).same s)
theorem Fr.wo {G H : Hp} {p : Addr} (f : Fr G H p) : Same G (KC.wo p H) := fun b u e => wo_at (f.sub _ _ e) fun z => by rw [z, f.no] at e; exact nomatch e
theorem box_ne {H : Hp} {p b : Addr} {o : HO} (f : BoxAt H p) (h : H b = some o) (n : ∀ x y z : Int, o ≠ .lst [.int x, .int y, .int z]) : b ≠ p := fun e => by
  obtain ⟨x, y, z, hp, _⟩ := f
  rw [e, hp] at h
  exact n x y z (Option.some.inj h).symm
theorem PrsAt.wo {H : Hp} {p : Addr} (f : BoxAt H p) {us : List V} {l : List (Str × Str)} (h : PrsAt H us l) : PrsAt (KC.wo p H) us l := by
  induction h with
  | nil => exact .nil
  | cons h _ ih => exact .cons (wo_at h (box_ne f h fun _ _ _ z => nomatch z)) ih
theorem _root_.Gd.DFn.wo {H : Hp} {p d : Addr} {D : List Str} {g : Fn Str} (f : BoxAt H p) (h : DFn H d D g) : DFn (KC.wo p H) d D g := by
  obtain ⟨kv, h1, h2⟩ := h
  exact ⟨kv, wo_at h1 (box_ne f h1 fun _ _ _ z => nomatch z), h2⟩
theorem _root_.Gd.CFn.wo {H : Hp} {p d : Addr} {D : List Str} {g : Fw.Cn Str} (f : BoxAt H p) (h : CFn H d D g) : CFn (KC.wo p H) d D g := by
  obtain ⟨kv, l, h1, h2, h3⟩ := h
  refine ⟨kv, l, wo_at h1 (box_ne f h1 fun _ _ _ z => nomatch z), h2, fun x hx y hy => wo_at (h3 x hx y hy) (box_ne f (h3 x hx y hy) fun a b c z => ?_)⟩
  injection z with z
  cases e : g x y with
  | nil => rw [e] at z; exact nomatch z
  | cons u r => rw [e] at z; exact nomatch z
theorem PrAt.wo {C : Addr} {H : Hp} {p : Addr} {v : V} {cs : List Nat} {g : Fn Str} (f : BoxAt H p) (h : PrAt C H v cs g) : PrAt C (KC.wo p H) v cs g := by
  obtain ⟨a, dx, d0, d1, d2, m, e, h1, h2, h3, h4, h5⟩ := h
  exact ⟨a, dx, d0, d1, d2, m, e, wo_at h1 (box_ne f h1 fun _ _ _ z => nomatch z), h2.wo f, h3.wo f, h4.wo f, h5⟩
/-! ### pairs as data -/
def prD (l : List (Str × Str)) : List PyData := l.map fun q => .tuple [.str q.1, .str q.2]
theorem PrsAt.da {K : PySem.W.Frag} {H : Hp} {us : List V} {l : List (Str × Str)} (h : PrsAt H us l) : DaL K H us (prD l) := by
  induction h with
  | nil => exact .nil
  | cons h _ ih => exact .cons (.tup (SqT.of h) (.cons (.str _) (.cons (.str _) .nil))) ih
/-! ### answers as data -/
def ansD : Option (Int × List (Str × Str)) → PyData
  | none => .none
  | some (c, l) => .tuple [.int c, .list (prD l)]
theorem AnsAt.da {K : PySem.W.Frag} {G H : Hp} {v : V} {o : Option (Int × List (Str × Str))} (h : AnsAt G H v o) : Da K H v (ansD o) := by
  match o, h with
  | none, h =>
    have h : v = .non := h
    subst h
    exact .non
  | some (c, l), ⟨b, L, us, h1, h2, h3, h4, _⟩ =>
    subst h1
    exact .tup (SqT.of h2) (.cons (.int c) (.cons (.lst h3 h4.da) .nil))
structure AnsOk (o : Option (Int × List (Str × Str))) : Prop where
  c : ∀ c l, o = some (c, l) → c.natAbs < 2 ^ 64 ∧ l.length ≤ 500
  s : ∀ c l, o = some (c, l) → ∀ q ∈ l, (q.1.length ≤ 1 ∧ ∀ z ∈ q.1.cps.toList, z < 16 ^ 8) ∧ (q.2.length ≤ 1 ∧ ∀ z ∈ q.2.cps.toList, z < 16 ^ 8)
theorem sym_ok {cs : List Nat} {x : Str} (al : Alp cs) (h : x ∈ symL cs) : x.length ≤ 1 ∧ ∀ z ∈ x.cps.toList, z < 16 ^ 8 := by
  rcases mem_sym.mp h with rfl | ⟨c, hc, rfl⟩
  · exact ⟨Nat.zero_le _, fun z hz => nomatch hz⟩
  · refine ⟨Nat.le_refl _, fun z hz => ?_⟩
    have hz : z ∈ [c] := hz
    rw [List.mem_singleton.mp hz]
    have := low_asc (al.low c hc)
    have : (16 : Nat) ^ 8 = 4294967296 := by decide
    omega
theorem ans_ok {cs : List Nat} {p : Fn Str} {a b : Str} (al : Alp cs) (pp : Prc (symL cs) p) (cap : Cap (symL cs) p) (small : a.length + b.length ≤ 500) : AnsOk (ans cs p (ltr a) (ltr b)) := by
  obtain ⟨hyp, best, tight⟩ := fin_inv (s := ltr a) (t := ltr b) al pp cap
  have main : ∀ c l, ans cs p (ltr a) (ltr b) = some (c, l) → (c.natAbs < 2 ^ 64 ∧ l.length ≤ 500) ∧ ∀ q ∈ l, q.1 ∈ symL cs ∧ q.2 ∈ symL cs := by
    intro c l h
    unfold ans at h
    cases e : (fin cs p (ltr a) (ltr b)).f 0 0 with
    | none => rw [e] at h; exact nomatch h
    | some c0 =>
      rw [e] at h
      cases h
      obtain ⟨b1, b2⟩ := fin_ran al pp cap e
      obtain ⟨w1, w2, w3, w4, w5⟩ := Dk.walk_all hyp tight (fun x : Str => x.cps.toList) rfl ((ltr a).length + (ltr b).length) 0 0 c (Nat.zero_le _) (Nat.zero_le _) (by omega) e
      have x1 := ltr_len (z := a)
      have x2 := ltr_len (z := b)
      refine ⟨⟨by omega, by omega⟩, fun q hq => ?_⟩
      obtain ⟨_, _, k, hk⟩ := w5 q hq
      unfold wgt at hk
      split at hk
      · rename_i c
        exact ⟨c.1, c.2.1⟩
      · exact nomatch hk
  exact ⟨fun c l h => (main c l h).1, fun c l h q hq => ⟨sym_ok al ((main c l h).2 q hq).1, sym_ok al ((main c l h).2 q hq).2⟩⟩
theorem prD_ok : ∀ {l : List (Str × Str)}, (∀ q ∈ l, (q.1.length ≤ 1 ∧ ∀ z ∈ q.1.cps.toList, z < 16 ^ 8) ∧ (q.2.length ≤ 1 ∧ ∀ z ∈ q.2.cps.toList, z < 16 ^ 8)) → OkL (prD l) ∧ widL (prD l) ≤ 40 * l.length ∧ PyData.depthAll (prD l) ≤ 1
  | [], _ => ⟨trivial, Nat.le_refl _, Nat.zero_le _⟩
  | q :: l, h => by
    obtain ⟨i1, i2, i3⟩ := prD_ok (l := l) fun z hz => h z (List.mem_cons_of_mem _ hz)
    obtain ⟨⟨a1, a2⟩, a3, a4⟩ := h q List.mem_cons_self
    refine ⟨⟨⟨a2, a4, trivial⟩, i1⟩, ?_, ?_⟩
    · show ((10 * q.1.length + 2) + 2 + ((10 * q.2.length + 2) + 2 + 0) + 3) + 2 + widL (prD l) ≤ 40 * (q :: l).length
      rw [List.length_cons]
      omega
    · show max (max 0 (max 0 0) + 1) (PyData.depthAll (prD l)) ≤ 1
      omega
theorem ansD_ok {o : Option (Int × List (Str × Str))} (h : AnsOk o) : Ok1 (ansD o) ∧ wid (ansD o) ≤ sizeLine ∧ (ansD o).depth ≤ 64 := by
  have sz := sizeLine_eq
  match o, h with
  | none, _ => exact ⟨trivial, by show 4 ≤ sizeLine; omega, by decide⟩
  | some (c, l), h =>
    obtain ⟨h1, h2⟩ := h.c c l rfl
    obtain ⟨i1, i2, i3⟩ := prD_ok (h.s c l rfl)
    have lg := log64 h1
    refine ⟨⟨?_, i1, trivial⟩, ?_, ?_⟩
    · show c.natAbs.log2 < 1920
      omega
    · show ((c.natAbs.log2 + 3) + 2 + ((widL (prD l) + 2) + 2 + 0)) + 3 ≤ sizeLine
      omega
    · show max 0 (max (PyData.depthAll (prD l) + 1) 0) + 1 ≤ 64
      omega
/-! ### the table turned about -/
theorem valV_merge : ∀ (more acc : List (List Key × V)) (k : List Key), (more.map (·.1)).Nodup → valV (mergeT acc more) k = match valV more k with
    | some v => some v
    | none => valV acc k
  | [], acc, k, _ => rfl
  | p :: r, acc, k, nd => by
    obtain ⟨n1, n2⟩ := List.nodup_cons.mp (show (p.1 :: r.map (·.1)).Nodup from nd)
    show valV (mergeT (putK acc p.1 p.2) r) k = _
    rw [valV_merge r _ k n2, valV_put]
    by_cases e : p.1 = k
    · have e2 : valV (p :: r) k = some p.2 := by
        unfold valV
        rw [List.find?_cons_of_pos (by simp [e])]
        rfl
      have e3 : valV r k = none := by
        cases h : valV r k with
        | none => rfl
        | some v =>
          have := valV_mem h
          exact (n1 (by rw [e]; exact List.mem_map.mpr ⟨_, this, rfl⟩)).elim
      rw [e2, e3, if_pos e.symm]
    · have e2 : valV (p :: r) k = valV r k := by
        unfold valV
        rw [List.find?_cons_of_neg (by simp [e])]
      rw [e2, if_neg (fun z => e z.symm)]
theorem valV_uniq : ∀ {kvs : List (List Key × V)} {k : List Key} {v : V}, (kvs.map (·.1)).Nodup → (k, v) ∈ kvs → valV kvs k = some v
  | p :: r, k, v, nd, h => by
    obtain ⟨n1, n2⟩ := List.nodup_cons.mp (show (p.1 :: r.map (·.1)).Nodup from nd)
    unfold valV
    by_cases e : p.1 = k
    · rw [List.find?_cons_of_pos (by simp [e])]
      rcases List.mem_cons.mp h with h | h
      · rw [← h]
        rfl
      · exact (n1 (by rw [e]; exact List.mem_map.mpr ⟨_, h, rfl⟩)).elim
    · rw [List.find?_cons_of_neg (by simp [e])]
      rcases List.mem_cons.mp h with h | h
      · exact (e (by rw [← h])).elim
      · exact valV_uniq n2 h
theorem valV_turn {kvs : List (List Key × V)} (nd : (kvs.map (·.1)).Nodup) (k : List Key) : valV (mergeT [] kvs.reverse) k = valV kvs k := by
  have nr : (kvs.reverse.map (·.1)).Nodup := by
    rw [List.map_reverse]
    exact (List.reverse_perm _).symm.nodup nd
  rw [valV_merge kvs.reverse [] k nr]
  have e : valV kvs.reverse k = valV kvs k := by
    cases h : valV kvs k with
    | some v => exact valV_uniq nr (List.mem_reverse.mpr (valV_mem h))
    | none =>
      cases h2 : valV kvs.reverse k with
      | none => rfl
      | some v => rw [valV_uniq nd (List.mem_reverse.mp (valV_mem h2))] at h; exact nomatch h
  rw [e]
  cases valV kvs k <;> rfl
theorem merge_mem : ∀ (more acc : List (List Key × V)) {q : List Key × V}, q ∈ mergeT acc more → q ∈ acc ∨ q ∈ more
  | [], acc, q, h => .inl h
  | p :: r, acc, q, h => by
    rcases merge_mem r (putK acc p.1 p.2) h with h | h
    · rcases put_mem h with rfl | h
      · exact .inr List.mem_cons_self
      · exact .inl h
    · exact .inr (List.mem_cons_of_mem _ h)
theorem tab_turn {D : List Str} {kvs : List (List Key × V)} (t : Tab D kvs) : Tab D (mergeT [] kvs.reverse) := by
  refine ⟨?_, fun k v h => ?_⟩
  · have := mergeT_len kvs.reverse []
    rw [List.length_reverse] at this
    have l0 : ([] : List (List Key × V)).length = 0 := rfl
    have := t.1
    omega
  · rcases merge_mem _ _ h with h | h
    · exact nomatch h
    · exact t.2 k v (List.mem_reverse.mp h)
theorem prc_turn {kvs : List (List Key × V)} {c : Co} (nd : (kvs.map (·.1)).Nodup) : prc (mergeT [] kvs.reverse) c = prc kvs c := by
  funext x y
  unfold prc
  rw [valV_turn nd]
theorem sq_kept {K : PySem.W.Frag} {H H' : Hp} {p a : Addr} {xs : List V} (h : SqL K H a xs) (n : a ≠ p) (k : Kept H H' p) : SqL K H' a xs := by
  rcases h with (h | ⟨o, h⟩) | h
  · exact .inl (.inl (k.2 a _ n h))
  · exact .inl (.inr ⟨o, k.2 a _ n h⟩)
  · exact .inr h
theorem paired_rev {α β : Type} {R : α → β → Prop} : ∀ {l : List α} {m : List β}, Paired R l m → Paired R l.reverse m.reverse
  | _, _, .nil => .nil
  | _, _, .cons h t => by
    rw [List.reverse_cons, List.reverse_cons]
    exact paired_app (paired_rev t) (.cons h .nil)
theorem paired_of {α β : Type} {R : α → β → Prop} : ∀ {l : List α} {m : List β}, l.length = m.length → (∀ (j : Nat) (a : α), l[j]? = some a → ∃ b, m[j]? = some b ∧ R a b) → Paired R l m
  | [], [], _, _ => .nil
  | [], _ :: _, h, _ => nomatch h
  | _ :: _, [], h, _ => nomatch h
  | a :: l, b :: m, h, r => by
    obtain ⟨b', e, h0⟩ := r 0 a rfl
    cases e
    exact .cons h0 (paired_of (Nat.succ.inj h) fun j a hj => r (j + 1) a hj)
theorem AnsAt.same {G H H' : Hp} {v : V} {o : Option (Int × List (Str × Str))} (h : AnsAt G H v o) (e : Same H H') : AnsAt G H' v o := by
  match o, h with
  | none, h => exact h
  | some (c, l), ⟨b, L, us, h1, h2, h3, h4, h5⟩ => exact ⟨b, L, us, h1, e _ _ h2, e _ _ h3, h4.same e, h5⟩
theorem more_ok {K : PySem.W.Frag} {G H : Hp} {v : V} {o : Option (Int × List (Str × Str))} {σ : L2.St} {D : Ends} (h : AnsAt G H v o) (ok : AnsOk o) (h13 : σ[13]? = some (some v)) (q : ∀ H', (H' = H ∨ ∃ L us, G L = none ∧ H L = some (.lst us) ∧ H' = upd H L (.lst (us ++ [.str (Str.ofString "more")]))) → D.nx σ H') :
    tIfS (tTest (tOp (fun x y H Q => y = V.non ∧ Q (V.bl !decide (x = V.non)) H) (tVar 13) (tC V.non))) (tDrop (tBM K "list" rAppend (tOp (rIxT K) (tVar 13) (tC (V.int 1))) (tCons (tC (V.str (Str.ofString "more"))) tNil))) tNext D σ H := by
  refine ⟨_, h13, rfl, _, rfl, ?_⟩
  match o, h, ok with
  | none, h, _ =>
    have h : v = .non := h
    subst h
    exact iteF (q H (.inl rfl))
  | some (c, l), ⟨b, L, us, h1, h2, h3, h4, h5⟩, ok =>
    subst h1
    have := h4.len
    have := (ok.c c l rfl).2
    exact iteT ⟨_, h13, b, _, _, _, rfl, rfl, SqT.of h2, atI_nat (j := 1) rfl, .inl ⟨rfl, _, SqL.of h3⟩, L, us, _, rfl, rfl, h3, by rw [sizeLine_eq]; omega, q _ (.inr ⟨L, us, h5, h3, rfl⟩)⟩
end KC

namespace KC
open PySem L2 Gd Fw KM
def spLaw (K : PySem.W.Frag) : Sp := fun vs H Q _ => ∃ (a : Addr) (ns : List Int), vs = [.ref a] ∧ SqL K H a (ns.map V.int) ∧ ns.length ≤ 63 ∧ ∀ H', Q (.bl true) H'
section
variable {P : Program} {w : World} {K : PySem.W.Frag} {mg : Str → Option Value} {base : Heap}
abbrev slaw : Stmt := top 59
theorem sclaw : FnScope ["_law_script", "_law_k", "_law_box_here", "_law_letters", "_law_table", "_law_common", "_law_sheet", "_law_costs_here", "_law_turned", "_law_turn", "_law_one", "_law_other", "_law_due", "_law_found", "_law_stood", "_law_same"] ["_law_script"] (defScope slaw) := ⟨rfl, rfl, rfl, by decide +kernel, rfl, by decide +kernel, by decide +kernel⟩
theorem ok_law {C fC f g1 g2 g3 g4 g5 g6 g7 g8 g9 g10 g11 : Addr} {fd dC d1 d2 d3 d4 d5 d6 d7 d8 d9 d10 d11 : FuncData} (F : Fun K "law" "law" slaw f fd) (T : Txt mg base)
    (D__law_cell : Df P w K mg base CX0 1 "_law_cell" g1 d1 ["_law_script", "_law_k"] (spScr K)) (D__law_box : Df P w K mg base CX0 1 "_law_box" g2 d2 ["_law_cell_here"] spBox)
    (D__law_some_letters : Df P w K mg base CX0 2 "_law_some_letters" g3 d3 ["_law_box_here", "_law_most"] spLets) (D__law_price_table : Df P w K mg base CX0 2 "_law_price_table" g4 d4 ["_law_box_here", "_law_letters"] spTabl)
    (D_new_Prices : Dn P w K mg base CX0 6 "Prices" C fC dC ["self", "alphabet", "table", "default"] (spInit C) 2 ["default"] (fun vs zs => vs ++ zs))
    (D__law_costs : Df P w K mg base CX0 2 "_law_costs" g5 d5 ["_law_letters", "_law_table", "_law_common"] spLCosts) (D__law_text : Df P w K mg base CX0 2 "_law_text" g6 d6 ["_law_box_here", "_law_letters", "_law_most"] spLText)
    (D__law_others : Df P w K mg base CX0 3 "_law_others" g7 d7 ["_law_box_here", "_law_letters", "_law_one"] spOthers) (D__law_rest : Df P w K mg base CX0 2 "_law_rest" g8 d8 ["_law_costs_here", "_law_one", "_law_other"] spRest)
    (D__law_told_right : Df P w K mg base CX0 3 "_law_told_right" g9 d9 ["_law_costs_here", "_law_found", "_law_due", "_law_one", "_law_other"] spTold)
    (D_cheapest_script : Df P w K mg base CX0 8 "cheapest_script" g10 d10 ["prices", "source", "target"] (spScript C))
    (D_cheapest_script_0_target_source_prices : Dk P w K mg base CX0 8 "cheapest_script" g10 d10 ["prices", "source", "target"] (spScript C) 0 ["target", "source", "prices"] (fun _ zs => zs.reverse))
    (D__law_long_right : Df P w K mg base CX0 9 "_law_long_right" g11 d11 ["_law_box_here", "_law_letters", "_law_sheet", "_law_costs_here"] (spLong C)) :
    FnG P w K mg base CX0 10 f fd ["_law_script"] (spLaw K) := by
  refine okG F sclaw (fun vs H Q E h => ?_) (fun cdv A outer s H vs Q E hc hr h => ?_)
  · obtain ⟨a, ns, rfl, _⟩ := h
    rfl
  obtain ⟨a, ns, rfl, ha, hns, q⟩ := h
  refine ⟨_, (pss_cons (ps_for (passes_of rfl) rfl (pi_range1 rfl T.z_range (pa_cons (pe_callB (call_max2 rfl) (by rfl) T.z_max (by decide +kernel) (pa_cons pe_int (pa_cons (pe_callB (call_min2 rfl) (by rfl) T.z_min (by decide +kernel) (pa_cons (pe_callB call_len_seq (by rfl) T.z_len (by decide +kernel) (pa_cons (pv 0) pa_nil)) (pa_cons pe_int pa_nil))) pa_nil))) pa_nil)) (pg_name (i := 1) sclaw.nd rfl (Or.inl rfl))
  (pss_cons (ps_set (i := 2) sclaw.nd rfl (Or.inl rfl) (pe_d D__law_box hc (hr.mono (by omega)) (by rfl) (fun _ => passN) (pa_cons (pe_d D__law_cell hc (hr.mono (by omega)) (by rfl) (fun _ => passN) (pa_cons (pv 0) (pa_cons (pv 1) pa_nil))) pa_nil)))
 (pss_cons (ps_set (i := 3) sclaw.nd rfl (Or.inl rfl) (pe_d D__law_some_letters hc (hr.mono (by omega)) (by rfl) (fun _ => passN) (pa_cons (pv 2) (pa_cons pe_int pa_nil))))
 (pss_cons (ps_asg (pe_d D__law_price_table hc (hr.mono (by omega)) (by rfl) (fun _ => passN) (pa_cons (pv 2) (pa_cons (pv 3) pa_nil))) (pg_tup (by rfl) (pgs_cons (pg_name (i := 4) sclaw.nd rfl (Or.inl rfl)) (pgs_cons (pg_name (i := 5) sclaw.nd rfl (Or.inl rfl)) pgs_nil))))
 (pss_cons (ps_par (i := 6) (j := 7) (by rfl) sclaw.nd rfl rfl (by decide) rfl rfl (pa_cons (pe_nk D_new_Prices hc (hr.mono (by omega)) (by rfl) (fun _ => passN) (pa_cons (pv 3) (pa_cons (pv 4) pa_nil)) (pk_cons (pv 5) pk_nil)) (pa_cons (pe_d D__law_costs hc (hr.mono (by omega)) (by rfl) (fun _ => passN) (pa_cons (pv 3) (pa_cons (pv 4) (pa_cons (pv 5) pa_nil)))) pa_nil)) (by rfl))
 (pss_cons (ps_set (i := 8) sclaw.nd rfl (Or.inl rfl) (pe_nk D_new_Prices hc (hr.mono (by omega)) (by rfl) (fun _ => passN) (pa_cons (pv 3) (pa_cons (pe_callTy (call_dictT rfl (hu2_of hr)) (by rfl) T.z_dict (by decide +kernel) (pa_cons (pe_revL (pe_callTy (L2.DX.cr_listItemsT rfl) (by rfl) T.z_list (by decide +kernel) (pa_cons (pe_bm0 PySem.F.plainAttrs_dict PySem.F.slot_dict_items PySem.F.type_dict_items L2.DX.mt_itemsT (pv 4)) pa_nil))) pa_nil)) pa_nil)) (pk_cons (pv 5) pk_nil)))
 (pss_cons (ps_for (passes_of rfl) rfl (pi_range1 rfl T.z_range (pa_cons pe_int pa_nil)) (pg_name (i := 9) sclaw.nd rfl (Or.inl rfl))
  (pss_cons (ps_set (i := 10) sclaw.nd rfl (Or.inl rfl) (pe_d D__law_text hc (hr.mono (by omega)) (by rfl) (fun _ => passN) (pa_cons (pv 2) (pa_cons (pv 3) (pa_cons pe_int pa_nil)))))
 (pss_cons (ps_set (i := 11) sclaw.nd rfl (Or.inl rfl) (pe_d D__law_others hc (hr.mono (by omega)) (by rfl) (fun _ => passN) (pa_cons (pv 2) (pa_cons (pv 3) (pa_cons (pv 10) pa_nil)))))
 (pss_cons (ps_par (i := 12) (j := 13) (by rfl) sclaw.nd rfl rfl (by decide) rfl rfl (pa_cons (pe_ix ix_list (pe_ix ix_list (pe_d D__law_rest hc (hr.mono (by omega)) (by rfl) (fun _ => passN) (pa_cons (pv 7) (pa_cons (pv 10) (pa_cons (pv 11) pa_nil)))) pe_int (fun _ _ => rfl)) pe_int (fun _ _ => rfl)) (pa_cons (pe_d D_cheapest_script hc (hr.mono (by omega)) (by rfl) (fun _ => passN) (pa_cons (pv 6) (pa_cons (pv 10) (pa_cons (pv 11) pa_nil)))) pa_nil)) (by rfl))
 (pss_cons (ps_if (pt_not (pt_val (pe_d D__law_told_right hc (hr.mono (by omega)) (by rfl) (fun _ => passN) (pa_cons (pv 7) (pa_cons (pv 13) (pa_cons (pv 12) (pa_cons (pv 10) (pa_cons (pv 11) pa_nil))))))))
  (pss_one (ps_ret pe_bl)) pss_nil)
 (pss_cons (ps_set (i := 14) sclaw.nd rfl (Or.inl rfl) (pe_callB (call_repr hc T.sys (room100 hr)) (by rfl) T.z_repr (by decide +kernel) (pa_cons (pv 13) pa_nil)))
 (pss_cons (ps_if (pt_cmpR op_ne (pe_callB (call_repr hc T.sys (room100 hr)) (by rfl) T.z_repr (by decide +kernel) (pa_cons (pe_dk0 D_cheapest_script_0_target_source_prices hc (hr.mono (by omega)) (by rfl) (fun _ => passN) (pk_cons (pv 11) (pk_cons (pv 10) (pk_cons (pv 6) pk_nil)))) pa_nil)) (pv 14) (nomark _))
  (pss_one (ps_ret pe_bl)) pss_nil)
 (pss_cons (ps_if (pt_cmpR op_notN (pv 13) pe_non (nomark _))
  (pss_one (ps_expr (pe_bm PySem.F.plainAttrs_list PySem.F.slot_list_append PySem.F.type_list_append mt_append (pe_ix ix_tup (pv 13) pe_int (fun _ _ => rfl)) (pa_cons pe_str pa_nil)))) pss_nil)
 (pss_one (ps_for (passes_of rfl) rfl (pi_list (pe_lst (pa_cons (pv 6) (pa_cons (pv 8) pa_nil)))) (pg_name (i := 15) sclaw.nd rfl (Or.inl rfl))
  (pss_one (ps_if (pt_cmpR op_ne (pe_callB (call_repr hc T.sys (room100 hr)) (by rfl) T.z_repr (by decide +kernel) (pa_cons (pe_d D_cheapest_script hc (hr.mono (by omega)) (by rfl) (fun _ => passN) (pa_cons (pv 15) (pa_cons (pv 10) (pa_cons (pv 11) pa_nil)))) pa_nil)) (pv 14) (nomark _))
  (pss_one (ps_ret pe_bl)) pss_nil))))))))))))
 (pss_one (ps_if (PW.pt (pw_and (pt_cmpR op_eq (pv 1) pe_int (nomark _)) (pw_and1 (pt_not (pt_val (pe_d D__law_long_right hc (hr.mono (by omega)) (by rfl) (fun _ => passN) (pa_cons (pv 2) (pa_cons (pv 3) (pa_cons (pv 6) (pa_cons (pv 7) pa_nil))))))))))
  (pss_one (ps_ret pe_bl)) pss_nil)))))))))
 (pss_one (ps_ret pe_bl))), ?_⟩
  have z16 := sizeLine_eq
  refine ⟨_, rfl, a, _, rfl, .inl ha, _, _, rfl, _, _, rfl, _, rfl, ?_, ?_, ?_⟩
  · split <;> split <;> omega
  · split <;> split <;> omega
  refine L2.for_it (L2.walk_range (lo := 0)) (fun i σ H' => (∃ o1 o2 o3 o4 o5 o6 o7 o8 o9 o10 o11 o12 o13 o14 o15 : Option V, σ = [some (.ref a), o1, o2, o3, o4, o5, o6, o7, o8, o9, o10, o11, o12, o13, o14, o15]) ∧ SqL K H' a (ns.map V.int)) ⟨⟨_, _, _, _, _, _, _, _, _, _, _, _, _, _, _, rfl⟩, ha⟩ (fun _ _ _ _ _ => trivial) ?_ ?_
  · rintro i v σ H1 _ hi ⟨⟨o1, o2, o3, o4, o5, o6, o7, o8, o9, o10, o11, o12, o13, o14, o15, rfl⟩, ha1⟩ ⟨rfl, rfl⟩
    rename_i H1
    have hi8 : i < 1000 := by
      refine Nat.lt_of_lt_of_le hi ?_
      split <;> split <;> omega
    refine ⟨_, rfl, _, rfl, a, ns, _, rfl, ha1, by omega, by omega, fun z => ⟨z, rfl, fun p o hp hb => ?_⟩⟩
    have keepA : ∀ H', Kept (upd H1 p o) H' p → SqL K H' a (ns.map V.int) := fun H' k => by
      have st : ∀ u, H1 a = some u → H' a = some u := fun u e => by
        have n := ne_of_none e hp
        exact k.2 a u n (by rw [upd_ne n]; exact e)
      rcases ha1 with (h | ⟨o, h⟩) | h
      · exact .inl (.inl (st _ h))
      · exact .inl (.inr ⟨o, st _ h⟩)
      · exact .inr h
    generalize upd H1 p o = H0 at hb keepA ⊢
    refine ⟨_, rfl, p, 6, rfl, hb, by decide, by decide, fun L H2 dr k2 => ?_⟩
    have al := dr.lets (by decide)
    refine ⟨_, rfl, _, rfl, p, L, rfl, k2.box, al, fun t d kvs c H3 k3 ht hd tb pc => ?_⟩
    have k3' := k2.trans k3
    have aL := al.alp
    clear k3 k2
    refine ⟨t, _, rfl, SqT.of ht, rfl, _, _, rfl, _, _, rfl, rfl, ?_⟩
    refine ⟨_, rfl, _, rfl, _, rfl, rfl, rfl, fun x dx hx hdx ne => ?_⟩
    have nd : ∀ b o, H3 b = some o → b ≠ x ∧ b ≠ dx := fun b o e => ⟨ne_of_none e hx, ne_of_none e hdx⟩
    have up : ∀ b o, H3 b = some o → (upd (upd H3 dx (.own x)) x (.ins C dx [])) b = some o := fun b o e => by
      rw [upd_ne (nd b o e).1, upd_ne (nd b o e).2]
      exact e
    refine ⟨x, dx, d, L, kvs, c, rfl, upd_same, al, up _ _ hd, tb, pc, fun H4 keep pr => ⟨rfl, ?_⟩⟩
    have s4 : Same H3 H4 := fun b o e => keep b o (nd b o e).1 (up b o e)
    refine ⟨_, rfl, _, rfl, _, rfl, L, d, kvs, c, rfl, al, s4 _ _ hd, tb, pc, fun e H5 s5 he df => ?_⟩
    have pp := prc_prc tb pc
    have cap := prc_cap tb pc
    have k5 := (k3'.same s4).same s5
    have pr5 := pr.same s5
    have hd5 := s5 _ _ (s4 _ _ hd)
    clear pr s5 s4 up nd keep hx hdx ne hd ht k3' H4 H3 he
    refine ⟨_, _, rfl, ?_⟩
    refine ⟨_, rfl, _, rfl, .inr (.inr (.inl ⟨rfl, .inr ⟨kvs, hd5⟩⟩)), d, kvs, rfl, rfl, hd5, fun iv hiv => ?_⟩
    have si := same_new (o := L2.DX.itemsO iv d) hiv
    refine ⟨iv, d, kvs, rfl, upd_same, si _ _ hd5, fun H6 l as g6 nl hl las pas ndk => ?_⟩
    have s6 : Same _ H6 := g6
    refine ⟨l, _, rfl, SqL.of hl, fun r hr' => ?_⟩
    have sr := same_new (o := .lst (as.map V.ref).reverse) hr'
    refine ⟨r, as.reverse, kvs.reverse, rfl, ?_, paired_rev (paired_of las fun j a hj => ?_), fun d2 hd2 => ?_⟩
    · rw [List.map_reverse]
      exact SqL.of upd_same
    · obtain ⟨kv, kq, h1, h2, h3⟩ := pas j a hj
      exact ⟨kv, h1, kq, SqT.of (sr _ _ h2), sr _ _ h3⟩
    have s7 := si.trans (s6.trans (sr.trans (same_new (o := .dT (mergeT [] kvs.reverse)) hd2)))
    have hd7 := upd_same (H := upd H6 r (.lst (as.map V.ref).reverse)) (a := d2) (o := .dT (mergeT [] kvs.reverse))
    generalize upd (upd H6 r (.lst (as.map V.ref).reverse)) d2 (.dT (mergeT [] kvs.reverse)) = H7 at s7 hd7 ⊢
    have k7 := k5.same s7
    have pr7 := pr5.same s7
    have df7 := df.same s7
    clear hiv si g6 s6 nl hl las pas hr' sr hd2 pr5 df hd5 k5 s7 H6 H5
    refine ⟨_, rfl, rfl, rfl, fun x2 dx2 hx2 hdx2 ne2 => ?_⟩
    have nd : ∀ b o, H7 b = some o → b ≠ x2 ∧ b ≠ dx2 := fun b o e => ⟨ne_of_none e hx2, ne_of_none e hdx2⟩
    have up : ∀ b o, H7 b = some o → (upd (upd H7 dx2 (.own x2)) x2 (.ins C dx2 [])) b = some o := fun b o e => by
      rw [upd_ne (nd b o e).1, upd_ne (nd b o e).2]
      exact e
    refine ⟨x2, dx2, d2, L, mergeT [] kvs.reverse, c, rfl, upd_same, al, up _ _ hd7, tab_turn tb, pc, fun H8 keep pr2 => ⟨rfl, ?_⟩⟩
    rw [prc_turn ndk] at pr2
    have s8 : Same H7 H8 := fun b o e => keep b o (nd b o e).1 (up b o e)
    have k8 := k7.same s8
    have pr1 := (pr7.same s8).wo k8.box
    have pr2 := pr2.wo k8.box
    have df := (df7.same s8).wo k8.box
    have fr := wo_fr k8.box
    generalize wo p H8 = G at pr1 pr2 df fr
    clear s8 keep up nd hx2 hdx2 ne2 k7 pr7 df7 hd7 H7
    generalize prc kvs c = P0 at pr1 pr2 df pp cap
    refine ⟨6, rfl, by decide, by decide, ?_⟩
    refine L2.for_it (L2.walk_range (lo := 0) (n := 6)) (fun j σ H' => (∃ o9 o10 o11 o12 o13 o14 o15 : Option V, σ = [some (.ref a), some (.int (0 + (i : Nat))), some (.ref p), some (.str L), some (.ref d), some (oV c), some (.ref x), some (.ref e), some (.ref x2), o9, o10, o11, o12, o13, o14, o15]) ∧ Fr G H' p ∧ Kept H0 H' p) ⟨⟨_, _, _, _, _, _, _, rfl⟩, fr, k8⟩ (fun _ _ _ _ _ => trivial) ?_ ?_
    · clear fr k8
      rintro j v σ H8 _ ltj ⟨⟨o9, o10, o11, o12, o13, o14, o15, rfl⟩, fr, k8⟩ ⟨rfl, rfl⟩
      rename_i H8
      refine ⟨_, rfl, _, rfl, p, L, 14, rfl, fr.box, al, by decide, by decide, fun a1 H9 k9 oa la => ?_⟩
      have fr := fr.kept k9
      refine ⟨_, rfl, _, rfl, _, rfl, p, L, a1, rfl, fr.box, al, oa, by omega, fun b1 H10 k10 ob lb => ?_⟩
      have fr := fr.kept k10
      refine ⟨_, rfl, _, rfl, _, rfl, e, a1, b1, cod L, P0, rfl, aL, df.same fr.sub, oa, ob, by omega, by omega, fun rv H11 R s11 ⟨F, rs, ev, mx⟩ loc => ?_⟩
      subst ev
      have fr := fr.same s11
      obtain ⟨r0, hr0, hm0⟩ := mx.row (Nat.zero_le _)
      refine ⟨F, _, _, _, rfl, rfl, SqL.of mx.hF, atI_nat (j := 0) (by rw [List.getElem?_map, hr0]; rfl), r0, _, _, _, rfl, rfl, SqL.of hm0, atI_nat (j := 0) (mRow_at (Nat.zero_le _)), ?_⟩
      have small : Small (ltr a1) (ltr b1) := small_of (by
        have h1 : (a1.length + 1) * (b1.length + 1) ≤ 15 * 30 := Nat.mul_le_mul (by omega) (by omega)
        have h2 : (a1.length + 1) * (b1.length + 1) * (54 * (a1.length + b1.length) + 2) ≤ (15 * 30) * (54 * 43 + 2) := Nat.mul_le_mul h1 (by omega)
        omega)
      refine ⟨_, rfl, _, rfl, _, rfl, .ref x, a1, b1, cod L, P0, rfl, pr1.same fr.sub, aL, pp, cap, oa, ob, by omega, by omega, small, fun r H12 s12 ar => ?_⟩
      have td := told_of aL pp cap ar loc (by omega)
      have aok := ans_ok (a := a1) (b := b1) aL pp cap (by omega)
      obtain ⟨d1, d2', d3⟩ := ansD_ok aok
      have fr := fr.same s12
      have kk8 := (((k8.trans k9).trans k10).same s11).same s12
      refine ⟨_, _, rfl, ?_⟩
      refine ⟨_, rfl, _, rfl, _, rfl, _, rfl, _, rfl, e, r, R 0 0, a1, b1, cod L, P0, rfl, aL, df.same fr.sub, td, fun H13 s13 => ⟨_, rfl, iteF ?_⟩⟩
      have fr := fr.same s13
      have kk8 := kk8.same s13
      have ar := ar.same s13
      have nG : ∀ {b : Addr}, H11 b = none → G b = none := fun h => (by
        have f11 : Fr G H11 p := ‹Fr G H11 p›
        exact f11.free h)
      refine ⟨_, rfl, r, ansD (ans (cod L) P0 (ltr a1) (ltr b1)), rfl, ar.da, d1, d2', d3, ?_⟩
      refine ⟨_, rfl, _, rfl, _, rfl, rfl, rfl, .ref x, a1, b1, cod L, P0, rfl, pr1.same fr.sub, aL, pp, cap, oa, ob, by omega, by omega, small, fun r2 H14 s14 ar2 => ?_⟩
      have fr := fr.same s14
      have kk8 := kk8.same s14
      have ar := ar.same s14
      refine ⟨r2, _, rfl, ar2.da, d1, d2', d3, _, rfl, rfl, _, rfl, ?_⟩
      rw [decide_eq_true rfl]
      refine iteF ?_
      refine more_ok ar aok rfl fun H15 h15 => ?_
      have fr : Fr G H15 p ∧ Kept H0 H15 p := by
        rcases h15 with rfl | ⟨L', us', hL1, hL2, rfl⟩
        · exact ⟨fr, kk8⟩
        · have nGL := nG hL1
          have nLp : L' ≠ p := fun z => by
            obtain ⟨u1, u2, u3, hb1, _⟩ := (‹Fr G H11 p› : Fr G H11 p).box
            rw [z, hb1] at hL1
            exact nomatch hL1
          refine ⟨⟨fun b o hb => ?_, fr.no, ?_⟩, ?_, fun q' o hq hH => ?_⟩
          · rw [upd_ne (fun z => by rw [z, nGL] at hb; exact nomatch hb)]
            exact fr.sub b o hb
          · exact BoxAt.keep_ne fr.box nLp.symm
          · exact BoxAt.keep_ne kk8.box nLp.symm
          · have k11 : Kept H0 H11 p := ((k8.trans k9).trans k10).same s11
            rw [upd_ne (fun z => by rw [z] at hq hH; rw [k11.2 _ _ hq hH] at hL1; exact nomatch hL1)]
            exact kk8.2 q' o hq hH
      obtain ⟨fr, kk8⟩ := fr
      refine ⟨_, rfl, _, rfl, by show 2 ≤ sizeLine; decide, fun l2 hl2 => ⟨l2, rfl, ⟨_, SqL.of upd_same⟩, ?_⟩⟩
      have fr := fr.same (same_new (o := .lst [V.ref x, V.ref x2]) hl2)
      have kk8 := kk8.same (same_new (o := .lst [V.ref x, V.ref x2]) hl2)
      have hl3 := upd_same (H := H15) (a := l2) (o := .lst [V.ref x, V.ref x2])
      generalize upd H15 l2 (.lst [V.ref x, V.ref x2]) = H16 at fr kk8 hl3 ⊢
      refine L2.for_it (L2.walk_list (xs := [V.ref x, V.ref x2])) (fun i' σ H' => (∃ o15 : Option V, σ = [some (.ref a), some (.int (0 + (i : Nat))), some (.ref p), some (.str L), some (.ref d), some (oV c), some (.ref x), some (.ref e), some (.ref x2), some (.int (0 + (j : Nat))), some (.str a1), some (.str b1), some (oV (R 0 0)), some r, some (.str (ansD (ans (cod L) P0 (ltr a1) (ltr b1))).shown), o15]) ∧ Same H16 H') ⟨⟨_, rfl⟩, Same.refl _⟩ (fun i' σ H' _ pv => SqL.of (pv.2 _ _ hl3)) ?_ ?_
      · rintro i' v σ H17 _ lti ⟨⟨o15, rfl⟩, s17⟩ ⟨rfl, hv⟩
        rename_i H17
        have prv : PrAt C G v (cod L) P0 := by
          match i', hv with
          | 0, hv => cases hv; exact pr1
          | 1, hv => cases hv; exact pr2
        have fr := fr.same s17
        refine ⟨_, rfl, _, rfl, _, rfl, v, a1, b1, cod L, P0, rfl, prv.same fr.sub, aL, pp, cap, oa, ob, by omega, by omega, small, fun r3 H18 s18 ar3 => ?_⟩
        refine ⟨r3, _, rfl, ar3.da, d1, d2', d3, _, rfl, rfl, _, rfl, ?_⟩
        rw [decide_eq_true rfl]
        exact iteF ⟨⟨_, rfl⟩, s17.trans s18⟩
      · rintro σ H17 ⟨⟨o15, rfl⟩, s17⟩
        exact ⟨⟨_, _, _, _, _, _, _, rfl⟩, fr.same s17, kk8.same s17⟩
    · clear fr k8
      rintro σ H8 ⟨⟨o9, o10, o11, o12, o13, o14, o15, rfl⟩, fr, k8⟩
      refine ⟨_, rfl, rfl, _, rfl, ?_⟩
      refine iteB (fun _ => ?_) (fun _ => ?_)
      · refine ⟨_, rfl, _, rfl, _, rfl, _, rfl, p, e, .ref x, L, P0, rfl, fr.box, al, pr1.same fr.sub, pp, cap, df.same fr.sub, ?_, fun H' k' => pr1.same (fr.kept k').sub, fun H' k' => df.same (fr.kept k').sub, fun H' k' => ⟨_, rfl, iteF ⟨⟨_, _, _, _, _, _, _, _, _, _, _, _, _, _, _, rfl⟩, keepA _ (k8.trans k')⟩⟩⟩
        obtain ⟨kvs', g1, _⟩ := df
        exact fun z => by rw [z, fr.no] at g1; exact nomatch g1
      · exact iteF ⟨⟨_, _, _, _, _, _, _, _, _, _, _, _, _, _, _, rfl⟩, keepA _ k8⟩
  · rintro σ H3 ⟨⟨o1, o2, o3, o4, o5, o6, o7, o8, o9, o10, o11, o12, o13, o14, o15, rfl⟩, _⟩
    exact q _
end
end KC

namespace KC
open PySem PySem.Spec PyProof.Rows L2 Gd Fw KM
theorem exm_selfG {K : PySem.W.Frag} {S : Addr} (h1 : PySem.W.subIn K (.ref S) (.type "BaseException") = some true) (h2 : PySem.W.isClsIn K S = true) (h3 : PySem.W.typeIn K (.ref S) = some (.type "type")) (h4 : PySem.W.subIn K (.ref S) (.ref S) = some true) :
    PySem.W.exmOne K (.ref S) (.ref S) = some true := by
  have e1 : (PySem.W.subIn K (.ref S) (.type "BaseException") == some true) = true := by rw [h1] <;> rfl
  have e2 : ((PySem.W.clsIn K S).isSome && PySem.W.typeIn K (.ref S) == some (.type "type")) = true := by
    have h2' : (PySem.W.clsIn K S).isSome = true := h2
    rw [h2', h3] <;> rfl
  show (if (PySem.W.subIn K (.ref S) (.type "BaseException") == some true) = true then (if ((PySem.W.clsIn K S).isSome && PySem.W.typeIn K (.ref S) == some (.type "type")) = true then PySem.W.subIn K (.ref S) (.ref S) else none) else none) = some true
  rw [if_pos e1, if_pos e2]
  exact h4
theorem kit_off {K : PySem.W.Frag} {C : Addr} {n : String} (h1 : PySem.W.isClsIn K C = true) (h2 : PySem.W.typeIn K (.ref C) = some (.type "type")) (h3 : PySem.W.subIn K (.type n) (.ref C) = some false) : PySem.W.kitOne K (.type n) (.ref C) = some false := by
  have e2 : ((PySem.W.clsIn K C).isSome && PySem.W.typeIn K (.ref C) == some (.type "type")) = true := by
    have h1' : (PySem.W.clsIn K C).isSome = true := h1
    rw [h1', h2] <;> rfl
  show (if (Value.type n == Value.ref C) = true then some true else (if ((PySem.W.clsIn K C).isSome && PySem.W.typeIn K (.ref C) == some (.type "type")) = true then PySem.W.subIn K (.type n) (.ref C) else none)) = some false
  have e0 : (Value.type n == Value.ref C) = false := by simp
  rw [e0, if_neg Bool.false_ne_true, if_pos e2]
  exact h3
theorem exm_offG {K : PySem.W.Frag} {S C : Addr} (h1 : PySem.W.subIn K (.ref C) (.type "BaseException") = some true) (h2 : PySem.W.isClsIn K C = true) (h3 : PySem.W.typeIn K (.ref C) = some (.type "type")) (h4 : PySem.W.subIn K (.ref S) (.ref C) = some false) :
    PySem.W.exmOne K (.ref S) (.ref C) = some false := by
  have e1 : (PySem.W.subIn K (.ref C) (.type "BaseException") == some true) = true := by rw [h1] <;> rfl
  have e2 : ((PySem.W.clsIn K C).isSome && PySem.W.typeIn K (.ref C) == some (.type "type")) = true := by
    have h2' : (PySem.W.clsIn K C).isSome = true := h2
    rw [h2', h3] <;> rfl
  show (if (PySem.W.subIn K (.ref C) (.type "BaseException") == some true) = true then (if ((PySem.W.clsIn K C).isSome && PySem.W.typeIn K (.ref C) == some (.type "type")) = true then PySem.W.subIn K (.ref S) (.ref C) else none) else none) = some false
  rw [if_pos e1, if_pos e2]
  exact h4
open PySem.W in
theorem all_mk {P : Program} {w : World} {K : PySem.W.Frag} {h : Heap} {mg : Str → Option Value} {fa : Addr} (X : K.In h) (G : h.Ns mainGlobals mg) (hfa : mg "law" = some (.ref fa))
    {f0 : Addr} {od0 an0 : Option Addr} {sl0 : Array (Option Value)} {oc0 kV0 dc0 pm0 cd0 ct0 : Value}
    {f1 : Addr} {od1 an1 : Option Addr} {sl1 : Array (Option Value)} {oc1 kV1 dc1 pm1 cd1 ct1 : Value}
    {f2 : Addr} {od2 an2 : Option Addr} {sl2 : Array (Option Value)} {oc2 kV2 dc2 pm2 cd2 ct2 : Value}
    {f3 : Addr} {od3 an3 : Option Addr} {sl3 : Array (Option Value)} {oc3 kV3 dc3 pm3 cd3 ct3 : Value}
    {f4 : Addr} {od4 an4 : Option Addr} {sl4 : Array (Option Value)} {oc4 kV4 dc4 pm4 cd4 ct4 : Value}
    {f5 : Addr} {od5 an5 : Option Addr} {sl5 : Array (Option Value)} {oc5 kV5 dc5 pm5 cd5 ct5 : Value}
    {f6 : Addr} {od6 an6 : Option Addr} {sl6 : Array (Option Value)} {oc6 kV6 dc6 pm6 cd6 ct6 : Value}
    {f7 : Addr} {od7 an7 : Option Addr} {sl7 : Array (Option Value)} {oc7 kV7 dc7 pm7 cd7 ct7 : Value}
    {f8 : Addr} {od8 an8 : Option Addr} {sl8 : Array (Option Value)} {oc8 kV8 dc8 pm8 cd8 ct8 : Value}
    {f9 : Addr} {od9 an9 : Option Addr} {sl9 : Array (Option Value)} {oc9 kV9 dc9 pm9 cd9 ct9 : Value}
    {f10 : Addr} {od10 an10 : Option Addr} {sl10 : Array (Option Value)} {oc10 kV10 dc10 pm10 cd10 ct10 : Value}
    {f11 : Addr} {od11 an11 : Option Addr} {sl11 : Array (Option Value)} {oc11 kV11 dc11 pm11 cd11 ct11 : Value}
    {f12 : Addr} {od12 an12 : Option Addr} {sl12 : Array (Option Value)} {oc12 kV12 dc12 pm12 cd12 ct12 : Value}
    {f13 : Addr} {od13 an13 : Option Addr} {sl13 : Array (Option Value)} {oc13 kV13 dc13 pm13 cd13 ct13 : Value}
    {f14 : Addr} {od14 an14 : Option Addr} {sl14 : Array (Option Value)} {oc14 kV14 dc14 pm14 cd14 ct14 : Value}
    {f15 : Addr} {od15 an15 : Option Addr} {sl15 : Array (Option Value)} {oc15 kV15 dc15 pm15 cd15 ct15 : Value}
    {f16 : Addr} {od16 an16 : Option Addr} {sl16 : Array (Option Value)} {oc16 kV16 dc16 pm16 cd16 ct16 : Value}
    {f17 : Addr} {od17 an17 : Option Addr} {sl17 : Array (Option Value)} {oc17 kV17 dc17 pm17 cd17 ct17 : Value}
    {f18 : Addr} {od18 an18 : Option Addr} {sl18 : Array (Option Value)} {oc18 kV18 dc18 pm18 cd18 ct18 : Value}
    {f19 : Addr} {od19 an19 : Option Addr} {sl19 : Array (Option Value)} {oc19 kV19 dc19 pm19 cd19 ct19 : Value}
    {f20 : Addr} {od20 an20 : Option Addr} {sl20 : Array (Option Value)} {oc20 kV20 dc20 pm20 cd20 ct20 : Value}
    {f21 : Addr} {od21 an21 : Option Addr} {sl21 : Array (Option Value)} {oc21 kV21 dc21 pm21 cd21 ct21 : Value}
    {f22 : Addr} {od22 an22 : Option Addr} {sl22 : Array (Option Value)} {oc22 kV22 dc22 pm22 cd22 ct22 : Value}
    {f23 : Addr} {od23 an23 : Option Addr} {sl23 : Array (Option Value)} {oc23 kV23 dc23 pm23 cd23 ct23 : Value}
    {f24 : Addr} {od24 an24 : Option Addr} {sl24 : Array (Option Value)} {oc24 kV24 dc24 pm24 cd24 ct24 : Value}
    {f25 : Addr} {od25 an25 : Option Addr} {sl25 : Array (Option Value)} {oc25 kV25 dc25 pm25 cd25 ct25 : Value}
    {f26 : Addr} {od26 an26 : Option Addr} {sl26 : Array (Option Value)} {oc26 kV26 dc26 pm26 cd26 ct26 : Value}
    {f27 : Addr} {od27 an27 : Option Addr} {sl27 : Array (Option Value)} {oc27 kV27 dc27 pm27 cd27 ct27 : Value}
    {f28 : Addr} {od28 an28 : Option Addr} {sl28 : Array (Option Value)} {oc28 kV28 dc28 pm28 cd28 ct28 : Value}
    {f29 : Addr} {od29 an29 : Option Addr} {sl29 : Array (Option Value)} {oc29 kV29 dc29 pm29 cd29 ct29 : Value}
    {f30 : Addr} {od30 an30 : Option Addr} {sl30 : Array (Option Value)} {oc30 kV30 dc30 pm30 cd30 ct30 : Value}
    {f31 : Addr} {od31 an31 : Option Addr} {sl31 : Array (Option Value)} {oc31 kV31 dc31 pm31 cd31 ct31 : Value}
    {f32 : Addr} {od32 an32 : Option Addr} {sl32 : Array (Option Value)} {oc32 kV32 dc32 pm32 cd32 ct32 : Value}
    {f33 : Addr} {od33 an33 : Option Addr} {sl33 : Array (Option Value)} {oc33 kV33 dc33 pm33 cd33 ct33 : Value}
    {f34 : Addr} {od34 an34 : Option Addr} {sl34 : Array (Option Value)} {oc34 kV34 dc34 pm34 cd34 ct34 : Value}
    {f35 : Addr} {od35 an35 : Option Addr} {sl35 : Array (Option Value)} {oc35 kV35 dc35 pm35 cd35 ct35 : Value}
    {f36 : Addr} {od36 an36 : Option Addr} {sl36 : Array (Option Value)} {oc36 kV36 dc36 pm36 cd36 ct36 : Value}
    {f37 : Addr} {od37 an37 : Option Addr} {sl37 : Array (Option Value)} {oc37 kV37 dc37 pm37 cd37 ct37 : Value}
    {f38 : Addr} {od38 an38 : Option Addr} {sl38 : Array (Option Value)} {oc38 kV38 dc38 pm38 cd38 ct38 : Value}
    {CA : Addr}
    {fA__init__ : Addr} {odA__init__ anA__init__ : Option Addr} {slA__init__ : Array (Option Value)} {ocA__init__ dcA__init__ pmA__init__ cdA__init__ ctA__init__ : Value}
    {fAalphabet : Addr} {odAalphabet anAalphabet : Option Addr} {slAalphabet : Array (Option Value)} {ocAalphabet kVAalphabet dcAalphabet pmAalphabet cdAalphabet ctAalphabet : Value}
    {fAcost : Addr} {odAcost anAcost : Option Addr} {slAcost : Array (Option Value)} {ocAcost kVAcost dcAcost pmAcost cdAcost ctAcost : Value}
    {fA_require_symbols : Addr} {odA_require_symbols anA_require_symbols : Option Addr} {slA_require_symbols : Array (Option Value)} {ocA_require_symbols kVA_require_symbols dcA_require_symbols pmA_require_symbols cdA_require_symbols ctA_require_symbols : Value}
    {DK TD : Addr} {ocTD : Value} {odTD : Option Addr} {tw : Tok} {nTD : Nat} {slTD : Array (Option Value)} {gAt gBt : Tok}
    (a0 : PySem.W.nsIn K mainGlobals "is_integer" = some (some (.ref f0)))
    (l0 : K.lookup f0 = some ⟨oc0, od0, .func (PySem.W.fnOf "is_integer" "is_integer" (defArgs sis_integer) (defBody sis_integer) (defScope sis_integer) .none kV0 dc0 pm0 an0 cd0 ct0), sl0⟩)
    (c0 : PySem.W.codeIn K cd0 "is_integer" = true)
    (k0 : PySem.W.keepIn K (.ref f0) = true)
    (a1 : PySem.W.nsIn K mainGlobals "is_letter" = some (some (.ref f1)))
    (l1 : K.lookup f1 = some ⟨oc1, od1, .func (PySem.W.fnOf "is_letter" "is_letter" (defArgs sis_letter) (defBody sis_letter) (defScope sis_letter) .none kV1 dc1 pm1 an1 cd1 ct1), sl1⟩)
    (c1 : PySem.W.codeIn K cd1 "is_letter" = true)
    (k1 : PySem.W.keepIn K (.ref f1) = true)
    (a2 : PySem.W.nsIn K mainGlobals "is_text" = some (some (.ref f2)))
    (l2 : K.lookup f2 = some ⟨oc2, od2, .func (PySem.W.fnOf "is_text" "is_text" (defArgs sis_text) (defBody sis_text) (defScope sis_text) .none kV2 dc2 pm2 an2 cd2 ct2), sl2⟩)
    (c2 : PySem.W.codeIn K cd2 "is_text" = true)
    (k2 : PySem.W.keepIn K (.ref f2) = true)
    (a3 : PySem.W.nsIn K mainGlobals "is_index" = some (some (.ref f3)))
    (l3 : K.lookup f3 = some ⟨oc3, od3, .func (PySem.W.fnOf "is_index" "is_index" (defArgs sis_index) (defBody sis_index) (defScope sis_index) .none kV3 dc3 pm3 an3 cd3 ct3), sl3⟩)
    (c3 : PySem.W.codeIn K cd3 "is_index" = true)
    (k3 : PySem.W.keepIn K (.ref f3) = true)
    (a4 : PySem.W.nsIn K mainGlobals "is_cheaper" = some (some (.ref f4)))
    (l4 : K.lookup f4 = some ⟨oc4, od4, .func (PySem.W.fnOf "is_cheaper" "is_cheaper" (defArgs sis_cheaper) (defBody sis_cheaper) (defScope sis_cheaper) .none kV4 dc4 pm4 an4 cd4 ct4), sl4⟩)
    (c4 : PySem.W.codeIn K cd4 "is_cheaper" = true)
    (k4 : PySem.W.keepIn K (.ref f4) = true)
    (a5 : PySem.W.nsIn K mainGlobals "cost_sum" = some (some (.ref f5)))
    (l5 : K.lookup f5 = some ⟨oc5, od5, .func (PySem.W.fnOf "cost_sum" "cost_sum" (defArgs scost_sum) (defBody scost_sum) (defScope scost_sum) .none kV5 dc5 pm5 an5 cd5 ct5), sl5⟩)
    (c5 : PySem.W.codeIn K cd5 "cost_sum" = true)
    (k5 : PySem.W.keepIn K (.ref f5) = true)
    (a6 : PySem.W.nsIn K mainGlobals "is_alphabet" = some (some (.ref f6)))
    (l6 : K.lookup f6 = some ⟨oc6, od6, .func (PySem.W.fnOf "is_alphabet" "is_alphabet" (defArgs sis_alphabet) (defBody sis_alphabet) (defScope sis_alphabet) .none kV6 dc6 pm6 an6 cd6 ct6), sl6⟩)
    (c6 : PySem.W.codeIn K cd6 "is_alphabet" = true)
    (k6 : PySem.W.keepIn K (.ref f6) = true)
    (a7 : PySem.W.nsIn K mainGlobals "is_symbol" = some (some (.ref f7)))
    (l7 : K.lookup f7 = some ⟨oc7, od7, .func (PySem.W.fnOf "is_symbol" "is_symbol" (defArgs sis_symbol) (defBody sis_symbol) (defScope sis_symbol) .none kV7 dc7 pm7 an7 cd7 ct7), sl7⟩)
    (c7 : PySem.W.codeIn K cd7 "is_symbol" = true)
    (k7 : PySem.W.keepIn K (.ref f7) = true)
    (a8 : PySem.W.nsIn K mainGlobals "is_price" = some (some (.ref f8)))
    (l8 : K.lookup f8 = some ⟨oc8, od8, .func (PySem.W.fnOf "is_price" "is_price" (defArgs sis_price) (defBody sis_price) (defScope sis_price) .none kV8 dc8 pm8 an8 cd8 ct8), sl8⟩)
    (c8 : PySem.W.codeIn K cd8 "is_price" = true)
    (k8 : PySem.W.keepIn K (.ref f8) = true)
    (a9 : PySem.W.nsIn K mainGlobals "is_price_table" = some (some (.ref f9)))
    (l9 : K.lookup f9 = some ⟨oc9, od9, .func (PySem.W.fnOf "is_price_table" "is_price_table" (defArgs sis_price_table) (defBody sis_price_table) (defScope sis_price_table) .none kV9 dc9 pm9 an9 cd9 ct9), sl9⟩)
    (c9 : PySem.W.codeIn K cd9 "is_price_table" = true)
    (k9 : PySem.W.keepIn K (.ref f9) = true)
    (a10 : PySem.W.nsIn K mainGlobals "is_edit" = some (some (.ref f10)))
    (l10 : K.lookup f10 = some ⟨oc10, od10, .func (PySem.W.fnOf "is_edit" "is_edit" (defArgs sis_edit) (defBody sis_edit) (defScope sis_edit) .none kV10 dc10 pm10 an10 cd10 ct10), sl10⟩)
    (c10 : PySem.W.codeIn K cd10 "is_edit" = true)
    (k10 : PySem.W.keepIn K (.ref f10) = true)
    (a11 : PySem.W.nsIn K mainGlobals "is_pair" = some (some (.ref f11)))
    (l11 : K.lookup f11 = some ⟨oc11, od11, .func (PySem.W.fnOf "is_pair" "is_pair" (defArgs sis_pair) (defBody sis_pair) (defScope sis_pair) .none kV11 dc11 pm11 an11 cd11 ct11), sl11⟩)
    (c11 : PySem.W.codeIn K cd11 "is_pair" = true)
    (k11 : PySem.W.keepIn K (.ref f11) = true)
    (a12 : PySem.W.nsIn K mainGlobals "cheapest_chains" = some (some (.ref f12)))
    (l12 : K.lookup f12 = some ⟨oc12, od12, .func (PySem.W.fnOf "cheapest_chains" "cheapest_chains" (defArgs scheapest_chains) (defBody scheapest_chains) (defScope scheapest_chains) .none kV12 dc12 pm12 an12 cd12 ct12), sl12⟩)
    (c12 : PySem.W.codeIn K cd12 "cheapest_chains" = true)
    (k12 : PySem.W.keepIn K (.ref f12) = true)
    (a13 : PySem.W.nsIn K mainGlobals "require_prices" = some (some (.ref f13)))
    (l13 : K.lookup f13 = some ⟨oc13, od13, .func (PySem.W.fnOf "require_prices" "require_prices" (defArgs srequire_prices) (defBody srequire_prices) (defScope srequire_prices) .none kV13 dc13 pm13 an13 cd13 ct13), sl13⟩)
    (c13 : PySem.W.codeIn K cd13 "require_prices" = true)
    (k13 : PySem.W.keepIn K (.ref f13) = true)
    (a14 : PySem.W.nsIn K mainGlobals "require_text" = some (some (.ref f14)))
    (l14 : K.lookup f14 = some ⟨oc14, od14, .func (PySem.W.fnOf "require_text" "require_text" (defArgs srequire_text) (defBody srequire_text) (defScope srequire_text) .none kV14 dc14 pm14 an14 cd14 ct14), sl14⟩)
    (c14 : PySem.W.codeIn K cd14 "require_text" = true)
    (k14 : PySem.W.keepIn K (.ref f14) = true)
    (a15 : PySem.W.nsIn K mainGlobals "require_known" = some (some (.ref f15)))
    (l15 : K.lookup f15 = some ⟨oc15, od15, .func (PySem.W.fnOf "require_known" "require_known" (defArgs srequire_known) (defBody srequire_known) (defScope srequire_known) .none kV15 dc15 pm15 an15 cd15 ct15), sl15⟩)
    (c15 : PySem.W.codeIn K cd15 "require_known" = true)
    (k15 : PySem.W.keepIn K (.ref f15) = true)
    (a16 : PySem.W.nsIn K mainGlobals "require_text_over" = some (some (.ref f16)))
    (l16 : K.lookup f16 = some ⟨oc16, od16, .func (PySem.W.fnOf "require_text_over" "require_text_over" (defArgs srequire_text_over) (defBody srequire_text_over) (defScope srequire_text_over) .none kV16 dc16 pm16 an16 cd16 ct16), sl16⟩)
    (c16 : PySem.W.codeIn K cd16 "require_text_over" = true)
    (k16 : PySem.W.keepIn K (.ref f16) = true)
    (a17 : PySem.W.nsIn K mainGlobals "require_texts" = some (some (.ref f17)))
    (l17 : K.lookup f17 = some ⟨oc17, od17, .func (PySem.W.fnOf "require_texts" "require_texts" (defArgs srequire_texts) (defBody srequire_texts) (defScope srequire_texts) .none kV17 dc17 pm17 an17 cd17 ct17), sl17⟩)
    (c17 : PySem.W.codeIn K cd17 "require_texts" = true)
    (k17 : PySem.W.keepIn K (.ref f17) = true)
    (a18 : PySem.W.nsIn K mainGlobals "text_table" = some (some (.ref f18)))
    (l18 : K.lookup f18 = some ⟨oc18, od18, .func (PySem.W.fnOf "text_table" "text_table" (defArgs stext_table) (defBody stext_table) (defScope stext_table) .none kV18 dc18 pm18 an18 cd18 ct18), sl18⟩)
    (c18 : PySem.W.codeIn K cd18 "text_table" = true)
    (k18 : PySem.W.keepIn K (.ref f18) = true)
    (a19 : PySem.W.nsIn K mainGlobals "pair_costs" = some (some (.ref f19)))
    (l19 : K.lookup f19 = some ⟨oc19, od19, .func (PySem.W.fnOf "pair_costs" "pair_costs" (defArgs spair_costs) (defBody spair_costs) (defScope spair_costs) .none kV19 dc19 pm19 an19 cd19 ct19), sl19⟩)
    (c19 : PySem.W.codeIn K cd19 "pair_costs" = true)
    (k19 : PySem.W.keepIn K (.ref f19) = true)
    (a20 : PySem.W.nsIn K mainGlobals "entries_of" = some (some (.ref f20)))
    (l20 : K.lookup f20 = some ⟨oc20, od20, .func (PySem.W.fnOf "entries_of" "entries_of" (defArgs sentries_of) (defBody sentries_of) (defScope sentries_of) .none kV20 dc20 pm20 an20 cd20 ct20), sl20⟩)
    (c20 : PySem.W.codeIn K cd20 "entries_of" = true)
    (k20 : PySem.W.keepIn K (.ref f20) = true)
    (a21 : PySem.W.nsIn K mainGlobals "searched" = some (some (.ref f21)))
    (l21 : K.lookup f21 = some ⟨oc21, od21, .func (PySem.W.fnOf "searched" "searched" (defArgs ssearched) (defBody ssearched) (defScope ssearched) .none kV21 dc21 pm21 an21 cd21 ct21), sl21⟩)
    (c21 : PySem.W.codeIn K cd21 "searched" = true)
    (k21 : PySem.W.keepIn K (.ref f21) = true)
    (a22 : PySem.W.nsIn K mainGlobals "cheapest_way" = some (some (.ref f22)))
    (l22 : K.lookup f22 = some ⟨oc22, od22, .func (PySem.W.fnOf "cheapest_way" "cheapest_way" (defArgs scheapest_way) (defBody scheapest_way) (defScope scheapest_way) (.ref TD) kV22 dc22 pm22 an22 cd22 ct22), sl22⟩)
    (c22 : PySem.W.codeIn K cd22 "cheapest_way" = true)
    (k22 : PySem.W.keepIn K (.ref f22) = true)
    (a23 : PySem.W.nsIn K mainGlobals "cheapest_script" = some (some (.ref f23)))
    (l23 : K.lookup f23 = some ⟨oc23, od23, .func (PySem.W.fnOf "cheapest_script" "cheapest_script" (defArgs scheapest_script) (defBody scheapest_script) (defScope scheapest_script) .none kV23 dc23 pm23 an23 cd23 ct23), sl23⟩)
    (c23 : PySem.W.codeIn K cd23 "cheapest_script" = true)
    (k23 : PySem.W.keepIn K (.ref f23) = true)
    (a24 : PySem.W.nsIn K mainGlobals "_law_cell" = some (some (.ref f24)))
    (l24 : K.lookup f24 = some ⟨oc24, od24, .func (PySem.W.fnOf "_law_cell" "_law_cell" (defArgs s_law_cell) (defBody s_law_cell) (defScope s_law_cell) .none kV24 dc24 pm24 an24 cd24 ct24), sl24⟩)
    (c24 : PySem.W.codeIn K cd24 "_law_cell" = true)
    (k24 : PySem.W.keepIn K (.ref f24) = true)
    (a25 : PySem.W.nsIn K mainGlobals "_law_box" = some (some (.ref f25)))
    (l25 : K.lookup f25 = some ⟨oc25, od25, .func (PySem.W.fnOf "_law_box" "_law_box" (defArgs s_law_box) (defBody s_law_box) (defScope s_law_box) .none kV25 dc25 pm25 an25 cd25 ct25), sl25⟩)
    (c25 : PySem.W.codeIn K cd25 "_law_box" = true)
    (k25 : PySem.W.keepIn K (.ref f25) = true)
    (a26 : PySem.W.nsIn K mainGlobals "_law_take" = some (some (.ref f26)))
    (l26 : K.lookup f26 = some ⟨oc26, od26, .func (PySem.W.fnOf "_law_take" "_law_take" (defArgs s_law_take) (defBody s_law_take) (defScope s_law_take) .none kV26 dc26 pm26 an26 cd26 ct26), sl26⟩)
    (c26 : PySem.W.codeIn K cd26 "_law_take" = true)
    (k26 : PySem.W.keepIn K (.ref f26) = true)
    (a27 : PySem.W.nsIn K mainGlobals "_law_some_letters" = some (some (.ref f27)))
    (l27 : K.lookup f27 = some ⟨oc27, od27, .func (PySem.W.fnOf "_law_some_letters" "_law_some_letters" (defArgs s_law_some_letters) (defBody s_law_some_letters) (defScope s_law_some_letters) .none kV27 dc27 pm27 an27 cd27 ct27), sl27⟩)
    (c27 : PySem.W.codeIn K cd27 "_law_some_letters" = true)
    (k27 : PySem.W.keepIn K (.ref f27) = true)
    (a28 : PySem.W.nsIn K mainGlobals "_law_pairs" = some (some (.ref f28)))
    (l28 : K.lookup f28 = some ⟨oc28, od28, .func (PySem.W.fnOf "_law_pairs" "_law_pairs" (defArgs s_law_pairs) (defBody s_law_pairs) (defScope s_law_pairs) .none kV28 dc28 pm28 an28 cd28 ct28), sl28⟩)
    (c28 : PySem.W.codeIn K cd28 "_law_pairs" = true)
    (k28 : PySem.W.keepIn K (.ref f28) = true)
    (a29 : PySem.W.nsIn K mainGlobals "_law_price_table" = some (some (.ref f29)))
    (l29 : K.lookup f29 = some ⟨oc29, od29, .func (PySem.W.fnOf "_law_price_table" "_law_price_table" (defArgs s_law_price_table) (defBody s_law_price_table) (defScope s_law_price_table) .none kV29 dc29 pm29 an29 cd29 ct29), sl29⟩)
    (c29 : PySem.W.codeIn K cd29 "_law_price_table" = true)
    (k29 : PySem.W.keepIn K (.ref f29) = true)
    (a30 : PySem.W.nsIn K mainGlobals "_law_costs" = some (some (.ref f30)))
    (l30 : K.lookup f30 = some ⟨oc30, od30, .func (PySem.W.fnOf "_law_costs" "_law_costs" (defArgs s_law_costs) (defBody s_law_costs) (defScope s_law_costs) .none kV30 dc30 pm30 an30 cd30 ct30), sl30⟩)
    (c30 : PySem.W.codeIn K cd30 "_law_costs" = true)
    (k30 : PySem.W.keepIn K (.ref f30) = true)
    (a31 : PySem.W.nsIn K mainGlobals "_law_text" = some (some (.ref f31)))
    (l31 : K.lookup f31 = some ⟨oc31, od31, .func (PySem.W.fnOf "_law_text" "_law_text" (defArgs s_law_text) (defBody s_law_text) (defScope s_law_text) .none kV31 dc31 pm31 an31 cd31 ct31), sl31⟩)
    (c31 : PySem.W.codeIn K cd31 "_law_text" = true)
    (k31 : PySem.W.keepIn K (.ref f31) = true)
    (a32 : PySem.W.nsIn K mainGlobals "_law_rest" = some (some (.ref f32)))
    (l32 : K.lookup f32 = some ⟨oc32, od32, .func (PySem.W.fnOf "_law_rest" "_law_rest" (defArgs s_law_rest) (defBody s_law_rest) (defScope s_law_rest) .none kV32 dc32 pm32 an32 cd32 ct32), sl32⟩)
    (c32 : PySem.W.codeIn K cd32 "_law_rest" = true)
    (k32 : PySem.W.keepIn K (.ref f32) = true)
    (a33 : PySem.W.nsIn K mainGlobals "_law_sum" = some (some (.ref f33)))
    (l33 : K.lookup f33 = some ⟨oc33, od33, .func (PySem.W.fnOf "_law_sum" "_law_sum" (defArgs s_law_sum) (defBody s_law_sum) (defScope s_law_sum) .none kV33 dc33 pm33 an33 cd33 ct33), sl33⟩)
    (c33 : PySem.W.codeIn K cd33 "_law_sum" = true)
    (k33 : PySem.W.keepIn K (.ref f33) = true)
    (a34 : PySem.W.nsIn K mainGlobals "_law_script_right" = some (some (.ref f34)))
    (l34 : K.lookup f34 = some ⟨oc34, od34, .func (PySem.W.fnOf "_law_script_right" "_law_script_right" (defArgs s_law_script_right) (defBody s_law_script_right) (defScope s_law_script_right) .none kV34 dc34 pm34 an34 cd34 ct34), sl34⟩)
    (c34 : PySem.W.codeIn K cd34 "_law_script_right" = true)
    (k34 : PySem.W.keepIn K (.ref f34) = true)
    (a35 : PySem.W.nsIn K mainGlobals "_law_others" = some (some (.ref f35)))
    (l35 : K.lookup f35 = some ⟨oc35, od35, .func (PySem.W.fnOf "_law_others" "_law_others" (defArgs s_law_others) (defBody s_law_others) (defScope s_law_others) .none kV35 dc35 pm35 an35 cd35 ct35), sl35⟩)
    (c35 : PySem.W.codeIn K cd35 "_law_others" = true)
    (k35 : PySem.W.keepIn K (.ref f35) = true)
    (a36 : PySem.W.nsIn K mainGlobals "_law_told_right" = some (some (.ref f36)))
    (l36 : K.lookup f36 = some ⟨oc36, od36, .func (PySem.W.fnOf "_law_told_right" "_law_told_right" (defArgs s_law_told_right) (defBody s_law_told_right) (defScope s_law_told_right) .none kV36 dc36 pm36 an36 cd36 ct36), sl36⟩)
    (c36 : PySem.W.codeIn K cd36 "_law_told_right" = true)
    (k36 : PySem.W.keepIn K (.ref f36) = true)
    (a37 : PySem.W.nsIn K mainGlobals "_law_long_right" = some (some (.ref f37)))
    (l37 : K.lookup f37 = some ⟨oc37, od37, .func (PySem.W.fnOf "_law_long_right" "_law_long_right" (defArgs s_law_long_right) (defBody s_law_long_right) (defScope s_law_long_right) .none kV37 dc37 pm37 an37 cd37 ct37), sl37⟩)
    (c37 : PySem.W.codeIn K cd37 "_law_long_right" = true)
    (k37 : PySem.W.keepIn K (.ref f37) = true)
    (a38 : PySem.W.nsIn K mainGlobals "law" = some (some (.ref f38)))
    (l38 : K.lookup f38 = some ⟨oc38, od38, .func (PySem.W.fnOf "law" "law" (defArgs slaw) (defBody slaw) (defScope slaw) .none kV38 dc38 pm38 an38 cd38 ct38), sl38⟩)
    (c38 : PySem.W.codeIn K cd38 "law" = true)
    (k38 : PySem.W.keepIn K (.ref f38) = true)
    (uAA : PySem.W.nsIn K mainGlobals "Prices" = some (some (.ref CA)))
    (uGA : PySem.W.plainGet K CA Str.empty = true)
    (uDA : PySem.W.hasDictIn K CA = true)
    (uPA : PySem.W.plainOver K CA = true)
    (uSA : PySem.W.findIn K (.ref CA) "__setattr__" = some (some (.builtin "object.__setattr__")))
    (uMA : PySem.W.makesIn K CA = true)
    (uKA : PySem.W.keepIn K (.ref CA) = true)
    (uFA0 : PySem.W.findIn K (.ref CA) "_alphabet" = some none)
    (uFA1 : PySem.W.findIn K (.ref CA) "_prices" = some none)
    (uFA2 : PySem.W.findIn K (.ref CA) "_costs" = some none)
    (uFA3 : PySem.W.findIn K (.ref CA) "_chains" = some none)
    (uFA4 : PySem.W.findIn K (.ref CA) "_highest" = some none)
    (uIA : PySem.W.findIn K (.ref CA) "__class__" = some (some (.builtin "object.__class__")))
    (uJA : PySem.W.specialIn K (.builtin "object.__class__") "__get__" = some (some (.builtin "getset_descriptor.__get__")))
    (uTA : PySem.W.takesIn K (.builtin "object.__class__") = some true)
    (uOA : PySem.W.mroIn K CA (.type "object") = some true)
    (uCA : PySem.W.isClsIn K CA = true)
    (uYA : PySem.W.typeIn K (.ref CA) = some (.type "type"))
    (uNANoneType : PySem.W.subIn K (.type "NoneType") (.ref CA) = some false)
    (uNAbool : PySem.W.subIn K (.type "bool") (.ref CA) = some false)
    (uNAint : PySem.W.subIn K (.type "int") (.ref CA) = some false)
    (uNAstr : PySem.W.subIn K (.type "str") (.ref CA) = some false)
    (uNAlist : PySem.W.subIn K (.type "list") (.ref CA) = some false)
    (uNAtuple : PySem.W.subIn K (.type "tuple") (.ref CA) = some false)
    (uNAdict : PySem.W.subIn K (.type "dict") (.ref CA) = some false)
    (vAA__init__ : PySem.W.findIn K (.ref CA) "__init__" = some (some (.ref fA__init__)))
    (vBA__init__ : PySem.W.isFn K (.ref fA__init__) = true)
    (vLA__init__ : K.lookup fA__init__ = some ⟨ocA__init__, odA__init__, .func (PySem.W.fnOf "__init__" "Prices.__init__" (defArgs sPrices___init__) (defBody sPrices___init__) (defScope sPrices___init__) .none (.ref DK) dcA__init__ pmA__init__ anA__init__ cdA__init__ ctA__init__), slA__init__⟩)
    (vCA__init__ : PySem.W.codeIn K cdA__init__ "Prices.__init__" = true)
    (vKA__init__ : PySem.W.keepIn K (.ref fA__init__) = true)
    (vAAalphabet : PySem.W.findIn K (.ref CA) "alphabet" = some (some (.ref fAalphabet)))
    (vBAalphabet : PySem.W.isFn K (.ref fAalphabet) = true)
    (vLAalphabet : K.lookup fAalphabet = some ⟨ocAalphabet, odAalphabet, .func (PySem.W.fnOf "alphabet" "Prices.alphabet" (defArgs sPrices_alphabet) (defBody sPrices_alphabet) (defScope sPrices_alphabet) .none kVAalphabet dcAalphabet pmAalphabet anAalphabet cdAalphabet ctAalphabet), slAalphabet⟩)
    (vCAalphabet : PySem.W.codeIn K cdAalphabet "Prices.alphabet" = true)
    (vKAalphabet : PySem.W.keepIn K (.ref fAalphabet) = true)
    (vAAcost : PySem.W.findIn K (.ref CA) "cost" = some (some (.ref fAcost)))
    (vBAcost : PySem.W.isFn K (.ref fAcost) = true)
    (vLAcost : K.lookup fAcost = some ⟨ocAcost, odAcost, .func (PySem.W.fnOf "cost" "Prices.cost" (defArgs sPrices_cost) (defBody sPrices_cost) (defScope sPrices_cost) .none kVAcost dcAcost pmAcost anAcost cdAcost ctAcost), slAcost⟩)
    (vCAcost : PySem.W.codeIn K cdAcost "Prices.cost" = true)
    (vKAcost : PySem.W.keepIn K (.ref fAcost) = true)
    (vAA_require_symbols : PySem.W.findIn K (.ref CA) "_require_symbols" = some (some (.ref fA_require_symbols)))
    (vBA_require_symbols : PySem.W.isFn K (.ref fA_require_symbols) = true)
    (vLA_require_symbols : K.lookup fA_require_symbols = some ⟨ocA_require_symbols, odA_require_symbols, .func (PySem.W.fnOf "_require_symbols" "Prices._require_symbols" (defArgs sPrices__require_symbols) (defBody sPrices__require_symbols) (defScope sPrices__require_symbols) .none kVA_require_symbols dcA_require_symbols pmA_require_symbols anA_require_symbols cdA_require_symbols ctA_require_symbols), slA_require_symbols⟩)
    (vCA_require_symbols : PySem.W.codeIn K cdA_require_symbols "Prices._require_symbols" = true)
    (vKA_require_symbols : PySem.W.keepIn K (.ref fA_require_symbols) = true)
    (gA : PySem.W.nsIn K mainGlobals "MOST_LETTERS" = some (some (.int 6 gAt)))
    (gB : PySem.W.nsIn K mainGlobals "HIGHEST_PRICE" = some (some (.int 9 gBt)))
    (tD : K.lookup TD = some ⟨ocTD, odTD, .seq #[.int 0 tw] nTD, slTD⟩)
    (hpu : PySem.W.nsIn K mainGlobals "heappush" = some (some (.builtin "_heapq.heappush")))
    (hpo : PySem.W.nsIn K mainGlobals "heappop" = some (some (.builtin "_heapq.heappop")))
    (z_isinstance : PySem.W.nsIn K mainGlobals "isinstance" = some none)
    (z_int : PySem.W.nsIn K mainGlobals "int" = some none)
    (z_bool : PySem.W.nsIn K mainGlobals "bool" = some none)
    (z_str : PySem.W.nsIn K mainGlobals "str" = some none)
    (z_list : PySem.W.nsIn K mainGlobals "list" = some none)
    (z_tuple : PySem.W.nsIn K mainGlobals "tuple" = some none)
    (z_dict : PySem.W.nsIn K mainGlobals "dict" = some none)
    (z_set : PySem.W.nsIn K mainGlobals "set" = some none)
    (z_len : PySem.W.nsIn K mainGlobals "len" = some none)
    (z_all : PySem.W.nsIn K mainGlobals "all" = some none)
    (z_max : PySem.W.nsIn K mainGlobals "max" = some none)
    (z_min : PySem.W.nsIn K mainGlobals "min" = some none)
    (z_sum : PySem.W.nsIn K mainGlobals "sum" = some none)
    (z_range : PySem.W.nsIn K mainGlobals "range" = some none)
    (z_repr : PySem.W.nsIn K mainGlobals "repr" = some none)
    (z_sorted : PySem.W.nsIn K mainGlobals "sorted" = some none)
    (z_enumerate : PySem.W.nsIn K mainGlobals "enumerate" = some none)
    (z_reversed : PySem.W.nsIn K mainGlobals "reversed" = some none)
    : ∃ fd : FuncData, (∀ (s : Shared) (u : Value), BindsTo s fd ⟨[u], []⟩ [("_law_script", u)]) ∧ ∀ base : Heap, K.In base → base.Ns mainGlobals mg → SysIn base → FnG P w K mg base CX0 10 fa fd ["_law_script"] (spLaw K) := by
  have e := hfa.symm.trans (PySem.W.mg_of X G a38)
  cases e
  have clA : Cls K CA := ⟨uGA, uDA, uPA, uSA⟩
  have noA : ∀ n : String, PySem.W.subIn K (.type n) (.ref CA) = some false → PySem.W.kitOne K (.type n) (.ref CA) = some false := fun n h => kit_off uCA uYA h
  have ctA : ClsT K CA := ⟨clA, uIA, uJA, uTA, uOA, kinds_no (noA _ uNANoneType) (noA _ uNAbool) (noA _ uNAint) (noA _ uNAstr) (noA _ uNAlist) (noA _ uNAtuple) (noA _ uNAdict)⟩
  have mCA := PySem.W.mg_of X G uAA
  have FA__init__ : Fun K "__init__" "Prices.__init__" sPrices___init__ fA__init__ _ := fun_mk (st := sPrices___init__) vLA__init__ vCA__init__ vKA__init__
  have meA__init__ : Meth K CA "__init__" fA__init__ := ⟨vAA__init__, vBA__init__, vKA__init__⟩
  have FAalphabet : Fun K "alphabet" "Prices.alphabet" sPrices_alphabet fAalphabet _ := fun_mk (st := sPrices_alphabet) vLAalphabet vCAalphabet vKAalphabet
  have meAalphabet : Meth K CA "alphabet" fAalphabet := ⟨vAAalphabet, vBAalphabet, vKAalphabet⟩
  have FAcost : Fun K "cost" "Prices.cost" sPrices_cost fAcost _ := fun_mk (st := sPrices_cost) vLAcost vCAcost vKAcost
  have meAcost : Meth K CA "cost" fAcost := ⟨vAAcost, vBAcost, vKAcost⟩
  have FA_require_symbols : Fun K "_require_symbols" "Prices._require_symbols" sPrices__require_symbols fA_require_symbols _ := fun_mk (st := sPrices__require_symbols) vLA_require_symbols vCA_require_symbols vKA_require_symbols
  have meA_require_symbols : Meth K CA "_require_symbols" fA_require_symbols := ⟨vAA_require_symbols, vBA_require_symbols, vKA_require_symbols⟩
  have F0 := fun_mk (st := sis_integer) l0 c0 k0
  have m0 := PySem.W.mg_of X G a0
  have F1 := fun_mk (st := sis_letter) l1 c1 k1
  have m1 := PySem.W.mg_of X G a1
  have F2 := fun_mk (st := sis_text) l2 c2 k2
  have m2 := PySem.W.mg_of X G a2
  have F3 := fun_mk (st := sis_index) l3 c3 k3
  have m3 := PySem.W.mg_of X G a3
  have F4 := fun_mk (st := sis_cheaper) l4 c4 k4
  have m4 := PySem.W.mg_of X G a4
  have F5 := fun_mk (st := scost_sum) l5 c5 k5
  have m5 := PySem.W.mg_of X G a5
  have F6 := fun_mk (st := sis_alphabet) l6 c6 k6
  have m6 := PySem.W.mg_of X G a6
  have F7 := fun_mk (st := sis_symbol) l7 c7 k7
  have m7 := PySem.W.mg_of X G a7
  have F8 := fun_mk (st := sis_price) l8 c8 k8
  have m8 := PySem.W.mg_of X G a8
  have F9 := fun_mk (st := sis_price_table) l9 c9 k9
  have m9 := PySem.W.mg_of X G a9
  have F10 := fun_mk (st := sis_edit) l10 c10 k10
  have m10 := PySem.W.mg_of X G a10
  have F11 := fun_mk (st := sis_pair) l11 c11 k11
  have m11 := PySem.W.mg_of X G a11
  have F12 := fun_mk (st := scheapest_chains) l12 c12 k12
  have m12 := PySem.W.mg_of X G a12
  have F13 := fun_mk (st := srequire_prices) l13 c13 k13
  have m13 := PySem.W.mg_of X G a13
  have F14 := fun_mk (st := srequire_text) l14 c14 k14
  have m14 := PySem.W.mg_of X G a14
  have F15 := fun_mk (st := srequire_known) l15 c15 k15
  have m15 := PySem.W.mg_of X G a15
  have F16 := fun_mk (st := srequire_text_over) l16 c16 k16
  have m16 := PySem.W.mg_of X G a16
  have F17 := fun_mk (st := srequire_texts) l17 c17 k17
  have m17 := PySem.W.mg_of X G a17
  have F18 := fun_mk (st := stext_table) l18 c18 k18
  have m18 := PySem.W.mg_of X G a18
  have F19 := fun_mk (st := spair_costs) l19 c19 k19
  have m19 := PySem.W.mg_of X G a19
  have F20 := fun_mk (st := sentries_of) l20 c20 k20
  have m20 := PySem.W.mg_of X G a20
  have F21 := fun_mk (st := ssearched) l21 c21 k21
  have m21 := PySem.W.mg_of X G a21
  have m22 := PySem.W.mg_of X G a22
  have F23 := fun_mk (st := scheapest_script) l23 c23 k23
  have m23 := PySem.W.mg_of X G a23
  have F24 := fun_mk (st := s_law_cell) l24 c24 k24
  have m24 := PySem.W.mg_of X G a24
  have F25 := fun_mk (st := s_law_box) l25 c25 k25
  have m25 := PySem.W.mg_of X G a25
  have F26 := fun_mk (st := s_law_take) l26 c26 k26
  have m26 := PySem.W.mg_of X G a26
  have F27 := fun_mk (st := s_law_some_letters) l27 c27 k27
  have m27 := PySem.W.mg_of X G a27
  have F28 := fun_mk (st := s_law_pairs) l28 c28 k28
  have m28 := PySem.W.mg_of X G a28
  have F29 := fun_mk (st := s_law_price_table) l29 c29 k29
  have m29 := PySem.W.mg_of X G a29
  have F30 := fun_mk (st := s_law_costs) l30 c30 k30
  have m30 := PySem.W.mg_of X G a30
  have F31 := fun_mk (st := s_law_text) l31 c31 k31
  have m31 := PySem.W.mg_of X G a31
  have F32 := fun_mk (st := s_law_rest) l32 c32 k32
  have m32 := PySem.W.mg_of X G a32
  have F33 := fun_mk (st := s_law_sum) l33 c33 k33
  have m33 := PySem.W.mg_of X G a33
  have F34 := fun_mk (st := s_law_script_right) l34 c34 k34
  have m34 := PySem.W.mg_of X G a34
  have F35 := fun_mk (st := s_law_others) l35 c35 k35
  have m35 := PySem.W.mg_of X G a35
  have F36 := fun_mk (st := s_law_told_right) l36 c36 k36
  have m36 := PySem.W.mg_of X G a36
  have F37 := fun_mk (st := s_law_long_right) l37 c37 k37
  have m37 := PySem.W.mg_of X G a37
  have F38 := fun_mk (st := slaw) l38 c38 k38
  have m38 := PySem.W.mg_of X G a38
  have b0 := F0.binds (ps := ["value"]) fun _ _ _ _ _ _ us hl => match us, hl with | [_], _ => rfl
  have b1 := F1.binds (ps := ["value"]) fun _ _ _ _ _ _ us hl => match us, hl with | [_], _ => rfl
  have b2 := F2.binds (ps := ["value"]) fun _ _ _ _ _ _ us hl => match us, hl with | [_], _ => rfl
  have b3 := F3.binds (ps := ["value", "size"]) fun _ _ _ _ _ _ us hl => match us, hl with | [_, _], _ => rfl
  have b4 := F4.binds (ps := ["cost", "other"]) fun _ _ _ _ _ _ us hl => match us, hl with | [_, _], _ => rfl
  have b5 := F5.binds (ps := ["cost", "other"]) fun _ _ _ _ _ _ us hl => match us, hl with | [_, _], _ => rfl
  have b6 := F6.binds (ps := ["value"]) fun _ _ _ _ _ _ us hl => match us, hl with | [_], _ => rfl
  have b7 := F7.binds (ps := ["value", "alphabet"]) fun _ _ _ _ _ _ us hl => match us, hl with | [_, _], _ => rfl
  have b8 := F8.binds (ps := ["value"]) fun _ _ _ _ _ _ us hl => match us, hl with | [_], _ => rfl
  have b9 := F9.binds (ps := ["value", "alphabet"]) fun _ _ _ _ _ _ us hl => match us, hl with | [_, _], _ => rfl
  have b10 := F10.binds (ps := ["value", "alphabet"]) fun _ _ _ _ _ _ us hl => match us, hl with | [_, _], _ => rfl
  have b11 := F11.binds (ps := ["value", "alphabet"]) fun _ _ _ _ _ _ us hl => match us, hl with | [_, _], _ => rfl
  have b12 := F12.binds (ps := ["symbols", "prices"]) fun _ _ _ _ _ _ us hl => match us, hl with | [_, _], _ => rfl
  have b13 := F13.binds (ps := ["value"]) fun _ _ _ _ _ _ us hl => match us, hl with | [_], _ => rfl
  have b14 := F14.binds (ps := ["value"]) fun _ _ _ _ _ _ us hl => match us, hl with | [_], _ => rfl
  have b15 := F15.binds (ps := ["prices", "letters"]) fun _ _ _ _ _ _ us hl => match us, hl with | [_, _], _ => rfl
  have b16 := F16.binds (ps := ["prices", "text"]) fun _ _ _ _ _ _ us hl => match us, hl with | [_, _], _ => rfl
  have b17 := F17.binds (ps := ["prices", "source", "target"]) fun _ _ _ _ _ _ us hl => match us, hl with | [_, _, _], _ => rfl
  have b18 := F18.binds (ps := ["text"]) fun _ _ _ _ _ _ us hl => match us, hl with | [_], _ => rfl
  have b19 := F19.binds (ps := ["prices"]) fun _ _ _ _ _ _ us hl => match us, hl with | [_], _ => rfl
  have b20 := F20.binds (ps := ["rows"]) fun _ _ _ _ _ _ us hl => match us, hl with | [_], _ => rfl
  have b21 := F21.binds (ps := ["prices", "one", "other"]) fun _ _ _ _ _ _ us hl => match us, hl with | [_, _, _], _ => rfl
  have b23 := F23.binds (ps := ["prices", "source", "target"]) fun _ _ _ _ _ _ us hl => match us, hl with | [_, _, _], _ => rfl
  have b24 := F24.binds (ps := ["_law_script", "_law_k"]) fun _ _ _ _ _ _ us hl => match us, hl with | [_, _], _ => rfl
  have b25 := F25.binds (ps := ["_law_cell_here"]) fun _ _ _ _ _ _ us hl => match us, hl with | [_], _ => rfl
  have b26 := F26.binds (ps := ["_law_box_here", "_law_size"]) fun _ _ _ _ _ _ us hl => match us, hl with | [_, _], _ => rfl
  have b27 := F27.binds (ps := ["_law_box_here", "_law_most"]) fun _ _ _ _ _ _ us hl => match us, hl with | [_, _], _ => rfl
  have b28 := F28.binds (ps := ["_law_letters"]) fun _ _ _ _ _ _ us hl => match us, hl with | [_], _ => rfl
  have b29 := F29.binds (ps := ["_law_box_here", "_law_letters"]) fun _ _ _ _ _ _ us hl => match us, hl with | [_, _], _ => rfl
  have b30 := F30.binds (ps := ["_law_letters", "_law_table", "_law_common"]) fun _ _ _ _ _ _ us hl => match us, hl with | [_, _, _], _ => rfl
  have b31 := F31.binds (ps := ["_law_box_here", "_law_letters", "_law_most"]) fun _ _ _ _ _ _ us hl => match us, hl with | [_, _, _], _ => rfl
  have b32 := F32.binds (ps := ["_law_costs_here", "_law_one", "_law_other"]) fun _ _ _ _ _ _ us hl => match us, hl with | [_, _, _], _ => rfl
  have b33 := F33.binds (ps := ["_law_one", "_law_other"]) fun _ _ _ _ _ _ us hl => match us, hl with | [_, _], _ => rfl
  have b34 := F34.binds (ps := ["_law_costs_here", "_law_script", "_law_cost", "_law_word"]) fun _ _ _ _ _ _ us hl => match us, hl with | [_, _, _, _], _ => rfl
  have b35 := F35.binds (ps := ["_law_box_here", "_law_letters", "_law_one"]) fun _ _ _ _ _ _ us hl => match us, hl with | [_, _, _], _ => rfl
  have b36 := F36.binds (ps := ["_law_costs_here", "_law_found", "_law_due", "_law_one", "_law_other"]) fun _ _ _ _ _ _ us hl => match us, hl with | [_, _, _, _, _], _ => rfl
  have b37 := F37.binds (ps := ["_law_box_here", "_law_letters", "_law_sheet", "_law_costs_here"]) fun _ _ _ _ _ _ us hl => match us, hl with | [_, _, _, _], _ => rfl
  have bAalphabet := FAalphabet.binds (ps := ["self"]) fun _ _ _ _ _ _ us hl => match us, hl with | [_], _ => rfl
  have bAcost := FAcost.binds (ps := ["self", "source", "target"]) fun _ _ _ _ _ _ us hl => match us, hl with | [_, _, _], _ => rfl
  have bA_require_symbols := FA_require_symbols.binds (ps := ["self", "source", "target"]) fun _ _ _ _ _ _ us hl => match us, hl with | [_, _, _], _ => rfl
  have bnew : KBn K (PySem.W.fnOf "__init__" "Prices.__init__" (defArgs sPrices___init__) (defBody sPrices___init__) (defScope sPrices___init__) .none (.ref DK) dcA__init__ pmA__init__ anA__init__ cdA__init__ ctA__init__) ["self", "alphabet", "table", "default"] 3 ["default"] (fun us ws => us ++ ws) (fun vs zs => vs ++ zs) :=
    ⟨fun s us ws X l1 l2 => .of_eq (match us, ws, l1, l2 with | [_, _, _], [_], _, _ => rfl), fun r1 r2 => r1.append r2⟩
  have FW : FunD K "cheapest_way" "cheapest_way" (defArgs scheapest_way) (defBody scheapest_way) (defScope scheapest_way) [V.int 0] [] f22 _ := ⟨⟨_, _, _, _, _, _, _, _, _, _, rfl, l22, c22, .inr ⟨List.cons_ne_nil _ _, TD, _, [.int 0 tw], nTD, rfl, tD, rfl, .cons ⟨_, rfl⟩ .nil⟩, .inl rfl⟩, k22⟩
  have bw := FW.binds1 (ps := ["prices", "one", "other", "start"]) 3 0 (List.cons_ne_nil _ _) rfl (fun T kV doc pm an cdv ct us its hl hi => match us, its, hl, hi with | [_, _, _], [_], _, _ => ⟨_, rfl, rfl⟩)
  have bk : ∃ g, KBn K (PySem.W.fnOf "cheapest_script" "cheapest_script" (defArgs scheapest_script) (defBody scheapest_script) (defScope scheapest_script) .none kV23 dc23 pm23 an23 cd23 ct23) ["prices", "source", "target"] 0 ["target", "source", "prices"] g (fun _ zs => zs.reverse) :=
    ⟨fun _ ws => ws.reverse, ⟨fun s us ws X l1 l2 => match us, ws, l1, l2 with | [], [u, z, y], _, _ => BindsTo.of_eq rfl, fun _ r2 => r2.reverse⟩⟩
  refine ⟨PySem.W.fnOf "law" "law" (defArgs slaw) (defBody slaw) (defScope slaw) .none kV38 dc38 pm38 an38 cd38 ct38, fun s u => .of_eq rfl, fun base _ _ hs => ?_⟩
  have T : Txt mg base := { sys := hs, g_MOST_LETTERS := ⟨_, PySem.W.mg_of X G gA, ⟨_, rfl⟩⟩, g_HIGHEST_PRICE := ⟨_, PySem.W.mg_of X G gB, ⟨_, rfl⟩⟩, z_isinstance := PySem.W.mg_none_of X G z_isinstance, z_int := PySem.W.mg_none_of X G z_int, z_bool := PySem.W.mg_none_of X G z_bool, z_str := PySem.W.mg_none_of X G z_str, z_list := PySem.W.mg_none_of X G z_list, z_tuple := PySem.W.mg_none_of X G z_tuple, z_dict := PySem.W.mg_none_of X G z_dict, z_set := PySem.W.mg_none_of X G z_set, z_len := PySem.W.mg_none_of X G z_len, z_all := PySem.W.mg_none_of X G z_all, z_max := PySem.W.mg_none_of X G z_max, z_min := PySem.W.mg_none_of X G z_min, z_sum := PySem.W.mg_none_of X G z_sum, z_range := PySem.W.mg_none_of X G z_range, z_repr := PySem.W.mg_none_of X G z_repr, z_sorted := PySem.W.mg_none_of X G z_sorted, z_enumerate := PySem.W.mg_none_of X G z_enumerate, z_reversed := PySem.W.mg_none_of X G z_reversed, b_heappush := PySem.W.mg_of X G hpu, b_heappop := PySem.W.mg_of X G hpo }
  have TC : TxC K mg CA := ⟨clA, uFA0, uFA1, uFA2, uFA3, uFA4⟩
  have D0 : Df P w K mg base CX0 1 "is_integer" _ _ ["value"] spIsInt := ⟨ok_isint F0 T, m0, k0, b0⟩
  have D1 : Df P w K mg base CX0 1 "is_letter" _ _ ["value"] (spAsk isLet) := ⟨ok_isletter F1 T, m1, k1, b1⟩
  have D2 : Df P w K mg base CX0 1 "is_text" _ _ ["value"] (spAsk isTxt) := ⟨ok_istext F2 T, m2, k2, b2⟩
  have D3 : Df P w K mg base CX0 2 "is_index" _ _ ["value", "size"] spIsIndex := ⟨ok_isindex F3 T D0, m3, k3, b3⟩
  have D4 : Df P w K mg base CX0 1 "is_cheaper" _ _ ["cost", "other"] spCheap := ⟨ok_cheaper F4, m4, k4, b4⟩
  have D5 : Df P w K mg base CX0 1 "cost_sum" _ _ ["cost", "other"] spCsum := ⟨ok_csum F5, m5, k5, b5⟩
  have D7 : Df P w K mg base CX0 2 "is_symbol" _ _ ["value", "alphabet"] (spSym K) := ⟨ok_symbol F7 D1, m7, k7, b7⟩
  have D8 : Df P w K mg base CX0 3 "is_price" _ _ ["value"] spPrice := ⟨ok_price F8 T D3, m8, k8, b8⟩
  have D11 : Df P w K mg base CX0 3 "is_pair" _ _ ["value", "alphabet"] (spPair K) := ⟨ok_pair F11 T D7, m11, k11, b11⟩
  have D10 : Df P w K mg base CX0 4 "is_edit" _ _ ["value", "alphabet"] spEdit := ⟨ok_edit F10 D11, m10, k10, b10⟩
  have D9 : Df P w K mg base CX0 5 "is_price_table" _ _ ["value", "alphabet"] spTable := ⟨ok_table F9 T D10 D8, m9, k9, b9⟩
  have D6 : Df P w K mg base CX0 2 "is_alphabet" _ _ ["value"] spAlph := ⟨ok_alphabet F6 T D2, m6, k6, b6⟩
  have D12 : Df P w K mg base CX0 2 "cheapest_chains" _ _ ["symbols", "prices"] spChains := ⟨ok_chains F12 D5 D4, m12, k12, b12⟩
  have DN : Dn P w K mg base CX0 6 "Prices" CA _ _ ["self", "alphabet", "table", "default"] (spInit CA) 2 ["default"] (fun vs zs => vs ++ zs) := ⟨ok_init FA__init__ T TC D6 D9 D8 D12, ⟨uMA, vAA__init__, vBA__init__, uKA⟩, mCA, _, bnew⟩
  have Malphabet : Dm P w K mg base CX0 1 CA "alphabet" _ _ ["self"] (spAlpha CA) := ⟨ok_alpha FAalphabet TC, clA, meAalphabet, bAalphabet⟩
  have M_require_symbols : Dm P w K mg base CX0 3 CA "_require_symbols" _ _ ["self", "source", "target"] (spReq CA) := ⟨ok_req FA_require_symbols TC D7, clA, meA_require_symbols, bA_require_symbols⟩
  have Mcost : Dm P w K mg base CX0 4 CA "cost" _ _ ["self", "source", "target"] (spCost CA) := ⟨ok_cost FAcost TC M_require_symbols, clA, meAcost, bAcost⟩
  have D13 : Df P w K mg base CX0 2 "require_prices" _ _ ["value"] (spReqPr CA) := ⟨ok_reqp F13 T ctA ⟨_, mCA, rfl⟩, m13, k13, b13⟩
  have D14 : Df P w K mg base CX0 2 "require_text" _ _ ["value"] spReqT := ⟨ok_reqt F14 D2, m14, k14, b14⟩
  have D15 : Df P w K mg base CX0 2 "require_known" _ _ ["prices", "letters"] (spReqK CA) := ⟨ok_reqk F15 Malphabet, m15, k15, b15⟩
  have D16 : Df P w K mg base CX0 3 "require_text_over" _ _ ["prices", "text"] (spReqK CA) := ⟨ok_reqo F16 D14 D15, m16, k16, b16⟩
  have D17 : Df P w K mg base CX0 4 "require_texts" _ _ ["prices", "source", "target"] (spReqTs CA) := ⟨ok_reqts F17 D13 D16, m17, k17, b17⟩
  have D18 : Df P w K mg base CX0 1 "text_table" _ _ ["text"] spTT := ⟨ok_ttab F18 T, m18, k18, b18⟩
  have D20 : Df P w K mg base CX0 1 "entries_of" _ _ ["rows"] spEnt := ⟨ok_ent F20 T, m20, k20, b20⟩
  have D19 : Df P w K mg base CX0 5 "pair_costs" _ _ ["prices"] (spPC CA) := ⟨ok_pc F19 T Malphabet Mcost, m19, k19, b19⟩
  have D21 : Df P w K mg base CX0 6 "searched" _ _ ["prices", "one", "other"] (spSrch CA) := ⟨ok_srch F21 T D19 D20 D5 D4, m21, k21, b21⟩
  have DW : Dd P w K mg base CX0 7 "cheapest_way" _ _ ["prices", "one", "other", "start"] [.int 0] (spWay CA) := ⟨ok_way FW T D21, m22, k22, bw⟩
  have D23 : Df P w K mg base CX0 8 "cheapest_script" _ _ ["prices", "source", "target"] (spScript CA) := ⟨ok_script F23 T D17 D18 DW, m23, k23, b23⟩
  have DK2 : Dk P w K mg base CX0 8 "cheapest_script" _ _ ["prices", "source", "target"] (spScript CA) 0 ["target", "source", "prices"] (fun _ zs => zs.reverse) := ⟨ok_script F23 T D17 D18 DW, m23, k23, bk⟩
  have D24 : Df P w K mg base CX0 1 "_law_cell" _ _ ["_law_script", "_law_k"] (spScr K) := ⟨ok_cell F24 T, m24, k24, b24⟩
  have D25 : Df P w K mg base CX0 1 "_law_box" _ _ ["_law_cell_here"] spBox := ⟨ok_box F25 T, m25, k25, b25⟩
  have D26 : Df P w K mg base CX0 1 "_law_take" _ _ ["_law_box_here", "_law_size"] spTake := ⟨ok_take F26, m26, k26, b26⟩
  have D27 : Df P w K mg base CX0 2 "_law_some_letters" _ _ ["_law_box_here", "_law_most"] spLets := ⟨ok_lets F27 T D26, m27, k27, b27⟩
  have D28 : Df P w K mg base CX0 1 "_law_pairs" _ _ ["_law_letters"] spPairs := ⟨ok_pairs F28 T, m28, k28, b28⟩
  have D29 : Df P w K mg base CX0 2 "_law_price_table" _ _ ["_law_box_here", "_law_letters"] spTabl := ⟨ok_tabl F29 T D26 D28, m29, k29, b29⟩
  have D30 : Df P w K mg base CX0 2 "_law_costs" _ _ ["_law_letters", "_law_table", "_law_common"] spLCosts := ⟨ok_lcosts F30 T D28, m30, k30, b30⟩
  have D31 : Df P w K mg base CX0 2 "_law_text" _ _ ["_law_box_here", "_law_letters", "_law_most"] spLText := ⟨ok_ltext F31 T D26, m31, k31, b31⟩
  have D33 : Df P w K mg base CX0 1 "_law_sum" _ _ ["_law_one", "_law_other"] spLSum := ⟨ok_lsum F33, m33, k33, b33⟩
  have D32 : Df P w K mg base CX0 2 "_law_rest" _ _ ["_law_costs_here", "_law_one", "_law_other"] spRest := ⟨ok_rest F32 T D33, m32, k32, b32⟩
  have D35 : Df P w K mg base CX0 3 "_law_others" _ _ ["_law_box_here", "_law_letters", "_law_one"] spOthers := ⟨ok_others F35 T D26 D31, m35, k35, b35⟩
  have D34 : Df P w K mg base CX0 2 "_law_script_right" _ _ ["_law_costs_here", "_law_script", "_law_cost", "_law_word"] spScrR := ⟨ok_scrr F34 T, m34, k34, b34⟩
  have D36 : Df P w K mg base CX0 3 "_law_told_right" _ _ ["_law_costs_here", "_law_found", "_law_due", "_law_one", "_law_other"] spTold := ⟨ok_told F36 T D34, m36, k36, b36⟩
  have D37 : Df P w K mg base CX0 9 "_law_long_right" _ _ ["_law_box_here", "_law_letters", "_law_sheet", "_law_costs_here"] (spLong CA) := ⟨ok_long F37 T D26 D31 D32 D36 D23, m37, k37, b37⟩
  exact ok_law F38 T D24 D25 D27 D29 DN D30 D31 D35 D32 D36 D23 DK2 D37
theorem walk {l : PySem.W.OpenLaw} {q : Program} {loose : List Str} {XP : (Str → Option Value) → Heap → Prop} {YP : World → Heap → Prop} {d : DefRec} {K : Params → PySem.W.Frag} (hn : l.most = some 63) (hdf : d.params.defaults = []) (himp : importsNone q = true)
    (hY : ∀ (w : World) (h : Heap), YP w h → (K w.params).In h)
    (F : ∀ (w : World) (mg : Str → Option Value) (fa : Addr) (h : Heap), (K w.params).In h → h.Ns mainGlobals mg → mg d.name = some (.ref fa) →
      ∃ fd : FuncData, (∀ (s : Shared) (u : Value), BindsTo s fd ⟨[u], []⟩ [("_law_script", u)]) ∧ ∀ base : Heap, (K w.params).In base → base.Ns mainGlobals mg → SysIn base → FnG l.prog w (K w.params) mg base CX0 10 fa fd ["_law_script"] (spLaw (K w.params))) :
    PySem.W.WalkO q loose XP YP l.row.toRowW d [] (fun f vs => PySem.call f vs) :=
  Gd.walkG (n := 63) (k := 10) (x := "_law_script") (CX := fun _ => CX0) (sp := fun w => spLaw (K w.params)) hn (by decide) hdf ⟨rfl, by decide, by decide⟩ himp hY F
    (fun _ _ a ns hl _ hS => ⟨a, ns, rfl, hS, hl, fun _ => rfl⟩) fun _ _ _ _ _ z => z
end KC
open PySem PySem.W PyProof.Rows
set_option maxRecDepth 100000 in
set_option maxHeartbeats 0 in
theorem PySem.Challenge.cw_formatrepair_k26_whole_cheapest_scripts_holds : PySem.Challenge.rw_formatrepair_k26_whole_cheapest_scripts.Holds := by
  w_on; o_law; k_head; (case hw => w_witness2)
  k_fill
  refine KC.walk (l := PySem.Challenge.rw_formatrepair_k26_whole_cheapest_scripts) rfl rfl rfl (fun w h Y => PySem.W.kIn_of Y) ?F
  case F =>
    intro w mg fa h KX G hmg
    refine' KC.all_mk KX G hmg ?a0 ?l0 ?c0 ?k0 ?a1 ?l1 ?c1 ?k1 ?a2 ?l2 ?c2 ?k2 ?a3 ?l3 ?c3 ?k3 ?a4 ?l4 ?c4 ?k4 ?a5 ?l5 ?c5 ?k5 ?a6 ?l6 ?c6 ?k6 ?a7 ?l7 ?c7 ?k7 ?a8 ?l8 ?c8 ?k8 ?a9 ?l9 ?c9 ?k9 ?a10 ?l10 ?c10 ?k10 ?a11 ?l11 ?c11 ?k11 ?a12 ?l12 ?c12 ?k12 ?a13 ?l13 ?c13 ?k13 ?a14 ?l14 ?c14 ?k14 ?a15 ?l15 ?c15 ?k15 ?a16 ?l16 ?c16 ?k16 ?a17 ?l17 ?c17 ?k17 ?a18 ?l18 ?c18 ?k18 ?a19 ?l19 ?c19 ?k19 ?a20 ?l20 ?c20 ?k20 ?a21 ?l21 ?c21 ?k21 ?a22 ?l22 ?c22 ?k22 ?a23 ?l23 ?c23 ?k23 ?a24 ?l24 ?c24 ?k24 ?a25 ?l25 ?c25 ?k25 ?a26 ?l26 ?c26 ?k26 ?a27 ?l27 ?c27 ?k27 ?a28 ?l28 ?c28 ?k28 ?a29 ?l29 ?c29 ?k29 ?a30 ?l30 ?c30 ?k30 ?a31 ?l31 ?c31 ?k31 ?a32 ?l32 ?c32 ?k32 ?a33 ?l33 ?c33 ?k33 ?a34 ?l34 ?c34 ?k34 ?a35 ?l35 ?c35 ?k35 ?a36 ?l36 ?c36 ?k36 ?a37 ?l37 ?c37 ?k37 ?a38 ?l38 ?c38 ?k38 ?uAA ?uGA ?uDA ?uPA ?uSA ?uMA ?uKA ?uFA0 ?uFA1 ?uFA2 ?uFA3 ?uFA4 ?uIA ?uJA ?uTA ?uOA ?uCA ?uYA ?uNANoneType ?uNAbool ?uNAint ?uNAstr ?uNAlist ?uNAtuple ?uNAdict ?vAA__init__ ?vBA__init__ ?vLA__init__ ?vCA__init__ ?vKA__init__ ?vAAalphabet ?vBAalphabet ?vLAalphabet ?vCAalphabet ?vKAalphabet ?vAAcost ?vBAcost ?vLAcost ?vCAcost ?vKAcost ?vAA_require_symbols ?vBA_require_symbols ?vLA_require_symbols ?vCA_require_symbols ?vKA_require_symbols ?gA ?gB ?tD ?hpu ?hpo ?z_isinstance ?z_int ?z_bool ?z_str ?z_list ?z_tuple ?z_dict ?z_set ?z_len ?z_all ?z_max ?z_min ?z_sum ?z_range ?z_repr ?z_sorted ?z_enumerate ?z_reversed
    (case a0 => k_is)
    (case l0 => k_is)
    (case c0 => k_is)
    (case k0 => k_is)
    (case a1 => k_is)
    (case l1 => k_is)
    (case c1 => k_is)
    (case k1 => k_is)
    (case a2 => k_is)
    (case l2 => k_is)
    (case c2 => k_is)
    (case k2 => k_is)
    (case a3 => k_is)
    (case l3 => k_is)
    (case c3 => k_is)
    (case k3 => k_is)
    (case a4 => k_is)
    (case l4 => k_is)
    (case c4 => k_is)
    (case k4 => k_is)
    (case a5 => k_is)
    (case l5 => k_is)
    (case c5 => k_is)
    (case k5 => k_is)
    (case a6 => k_is)
    (case l6 => k_is)
    (case c6 => k_is)
    (case k6 => k_is)
    (case a7 => k_is)
    (case l7 => k_is)
    (case c7 => k_is)
    (case k7 => k_is)
    (case a8 => k_is)
    (case l8 => k_is)
    (case c8 => k_is)
    (case k8 => k_is)
    (case a9 => k_is)
    (case l9 => k_is)
    (case c9 => k_is)
    (case k9 => k_is)
    (case a10 => k_is)
    (case l10 => k_is)
    (case c10 => k_is)
    (case k10 => k_is)
    (case a11 => k_is)
    (case l11 => k_is)
    (case c11 => k_is)
    (case k11 => k_is)
    (case a12 => k_is)
    (case l12 => k_is)
    (case c12 => k_is)
    (case k12 => k_is)
    (case a13 => k_is)
    (case l13 => k_is)
    (case c13 => k_is)
    (case k13 => k_is)
    (case a14 => k_is)
    (case l14 => k_is)
    (case c14 => k_is)
    (case k14 => k_is)
    (case a15 => k_is)
    (case l15 => k_is)
    (case c15 => k_is)
    (case k15 => k_is)
    (case a16 => k_is)
    (case l16 => k_is)
    (case c16 => k_is)
    (case k16 => k_is)
    (case a17 => k_is)
    (case l17 => k_is)
    (case c17 => k_is)
    (case k17 => k_is)
    (case a18 => k_is)
    (case l18 => k_is)
    (case c18 => k_is)
    (case k18 => k_is)
    (case a19 => k_is)
    (case l19 => k_is)
    (case c19 => k_is)
    (case k19 => k_is)
    (case a20 => k_is)
    (case l20 => k_is)
    (case c20 => k_is)
    (case k20 => k_is)
    (case a21 => k_is)
    (case l21 => k_is)
    (case c21 => k_is)
    (case k21 => k_is)
    (case a22 => k_is)
    (case l22 => k_is)
    (case c22 => k_is)
    (case k22 => k_is)
    (case a23 => k_is)
    (case l23 => k_is)
    (case c23 => k_is)
    (case k23 => k_is)
    (case a24 => k_is)
    (case l24 => k_is)
    (case c24 => k_is)
    (case k24 => k_is)
    (case a25 => k_is)
    (case l25 => k_is)
    (case c25 => k_is)
    (case k25 => k_is)
    (case a26 => k_is)
    (case l26 => k_is)
    (case c26 => k_is)
    (case k26 => k_is)
    (case a27 => k_is)
    (case l27 => k_is)
    (case c27 => k_is)
    (case k27 => k_is)
    (case a28 => k_is)
    (case l28 => k_is)
    (case c28 => k_is)
    (case k28 => k_is)
    (case a29 => k_is)
    (case l29 => k_is)
    (case c29 => k_is)
    (case k29 => k_is)
    (case a30 => k_is)
    (case l30 => k_is)
    (case c30 => k_is)
    (case k30 => k_is)
    (case a31 => k_is)
    (case l31 => k_is)
    (case c31 => k_is)
    (case k31 => k_is)
    (case a32 => k_is)
    (case l32 => k_is)
    (case c32 => k_is)
    (case k32 => k_is)
    (case a33 => k_is)
    (case l33 => k_is)
    (case c33 => k_is)
    (case k33 => k_is)
    (case a34 => k_is)
    (case l34 => k_is)
    (case c34 => k_is)
    (case k34 => k_is)
    (case a35 => k_is)
    (case l35 => k_is)
    (case c35 => k_is)
    (case k35 => k_is)
    (case a36 => k_is)
    (case l36 => k_is)
    (case c36 => k_is)
    (case k36 => k_is)
    (case a37 => k_is)
    (case l37 => k_is)
    (case c37 => k_is)
    (case k37 => k_is)
    (case a38 => k_is)
    (case l38 => k_is)
    (case c38 => k_is)
    (case k38 => k_is)
    (case uAA => k_is)
    (case uGA => k_is)
    (case uDA => k_is)
    (case uPA => k_is)
    (case uSA => k_is)
    (case uMA => k_is)
    (case uKA => k_is)
    (case uFA0 => k_is)
    (case uFA1 => k_is)
    (case uFA2 => k_is)
    (case uFA3 => k_is)
    (case uFA4 => k_is)
    (case uIA => k_is)
    (case uJA => k_is)
    (case uTA => k_is)
    (case uOA => k_is)
    (case uCA => k_is)
    (case uYA => k_is)
    (case uNANoneType => k_is)
    (case uNAbool => k_is)
    (case uNAint => k_is)
    (case uNAstr => k_is)
    (case uNAlist => k_is)
    (case uNAtuple => k_is)
    (case uNAdict => k_is)
    (case vAA__init__ => k_is)
    (case vBA__init__ => k_is)
    (case vLA__init__ => k_is)
    (case vCA__init__ => k_is)
    (case vKA__init__ => k_is)
    (case vAAalphabet => k_is)
    (case vBAalphabet => k_is)
    (case vLAalphabet => k_is)
    (case vCAalphabet => k_is)
    (case vKAalphabet => k_is)
    (case vAAcost => k_is)
    (case vBAcost => k_is)
    (case vLAcost => k_is)
    (case vCAcost => k_is)
    (case vKAcost => k_is)
    (case vAA_require_symbols => k_is)
    (case vBA_require_symbols => k_is)
    (case vLA_require_symbols => k_is)
    (case vCA_require_symbols => k_is)
    (case vKA_require_symbols => k_is)
    (case gA => k_is)
    (case gB => k_is)
    (case tD => k_is)
    (case hpu => k_is)
    (case hpo => k_is)
    (case z_isinstance => k_is)
    (case z_int => k_is)
    (case z_bool => k_is)
    (case z_str => k_is)
    (case z_list => k_is)
    (case z_tuple => k_is)
    (case z_dict => k_is)
    (case z_set => k_is)
    (case z_len => k_is)
    (case z_all => k_is)
    (case z_max => k_is)
    (case z_min => k_is)
    (case z_sum => k_is)
    (case z_range => k_is)
    (case z_repr => k_is)
    (case z_sorted => k_is)
    (case z_enumerate => k_is)
    (case z_reversed => k_is)
